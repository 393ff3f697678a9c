import Derived.Test.YtkiehemoiapkkaaGreatY01
import Derived.Test.YtkiehemoiapkkaaGreatY10
import Derived.Test.YtkiehemoiapkkaaGreatY11
import Derived.ProofKit
import Derived.OpenShut
import Derived.ShutString
import Derived.ChangeOld
import Derived.SizedLaws
import Derived.Deep.Slices
set_option maxRecDepth 20000
set_option maxHeartbeats 8000000
set_option linter.all false
namespace Go.Proofs.YtkiehemoiapkkaaGreat
open Go.Proofs.Tryz
open Go.RowKit Go.Maps
section
def pm (w:World) (E:Nat->Prop) (kr NN:Nat):Prop:=
 ∃F X p s cR q l m t n a1 a2 k S G T M,jY w F X kr p s cR q l m t n a1 a2 k S G T M/\LK G S T M/\Dv S s G NN/\G.y.data=2+G.y.nodes / 4/\(∀j,F j->E j)/\(∀j,X j->E j)/\E kr/\E q/\E l/\E m/\E t/\E n/\E a1/\E a2/\(∀j,E j->j<w.heap.size)
section
variable {w w' w0:World} {E E2 Z:Nat->Prop} {kr W0 NN:Nat} {N:Int} {who two:Bool} {da:Option Addr} {dn dc:Nat} {dl:List Int}
theorem pm.apart (h:pm w E kr NN) (hk:ad Z w w') (hZ:∀j,Z j->¬E j):pm w' E kr NN:=by
 obtain⟨F,X,p,s,cR,q,l,m,t,n,a1,a2,k,S,G,T,M,h,hc,hd,fZ,eF,eX,e0,e1,e2,e3,e4,e5,e6,e7,hl⟩:=h;have hp:∀a,E a->ar w F a t n->ar w' F a t n:=λa ea ha=>⟨(hk.block a ha.lt (λe=>hZ a e ea)).trans ha.b,ha.nf⟩;refine⟨F,X,p,s,cR,q,l,m,t,n,a1,a2,k,S,G,T,M,⟨(hk.block kr (af h.b) (λe=>hZ kr e e0)).trans h.b,h.x.apart hk (λj hj=>?_),hp a1 e6 h.p1,hp a2 e7 h.p2,h.mm.apart hk (λj hj hx=>hZ j hj (eX j hx)),λj hj=>Nat.lt_of_lt_of_le (h.xl j hj) hk.size,h.nk,h.xa⟩,hc,hd,fZ,eF,eX,e0,e1,e2,e3,e4,e5,e6,e7,λj hj=>Nat.lt_of_lt_of_le (hl j hj) hk.size⟩;have h9:=hZ j hj;exact⟨λe=>h9 (eF j e),λe=>h9 (e▸e1),λe=>h9 (e▸e2),λe=>h9 (e▸e3),λe=>h9 (e▸e4),λe=>h9 (e▸e5)⟩
theorem pm.later (h:pm w E kr NN) (hb:Below w.heap.size w w'):pm w' E kr NN:=h.apart (ad.ag (λ_=>False) hb) (λ_ h=>h.elim)
theorem pm.lt (h:pm w E kr NN):∀j,E j->j<w.heap.size:=by
 obtain⟨F,X,p,s,cR,q,l,m,t,n,a1,a2,k,S,G,T,M,h,hc,hd,fZ,eF,eX,e0,e1,e2,e3,e4,e5,e6,e7,hl⟩:=h;exact hl
def gZ (w w':World) (E:Nat->Prop) (kr NN:Nat) (e:Ending):Prop:=e= .returned (.bool true)/\pm w' (λj=>E j\/(w.heap.size<=j/\j<w'.heap.size)) kr NN/\ad E w w'
theorem lc.rg {F X:Nat->Prop} {p s q l m t n a1 a2 k:Nat} {S:DS} {G:SG} {e:Ending} (h:lc w w' F X kr p s q l m t n a1 a2 k S G e) (hd:Dv S s G NN) (fZ:G.y.data=2+G.y.nodes / 4) (eF:∀j,F j->E j) (eX:∀j,X j->E j) (e0:E kr) (e1:E q) (e2:E l) (e3:E m) (e4:E t) (e5:E n) (e6:E a1) (e7:E a2) (hl:∀j,E j->j<w.heap.size):gZ w w' E kr NN e:=by
 obtain⟨he,X',T',M',c',h1,h2,h3,h4⟩:=h;refine⟨he,⟨F,X',p,s,c',q,l,m,t,n,a1,a2,k,S,G,T',M',h1,h2,hd,fZ,λj hj=> .inl (eF j hj),λj hj=>(h4 j hj).imp (eX j) (λe=>e), .inl e0, .inl e1, .inl e2, .inl e3, .inl e4, .inl e5, .inl e6, .inl e7,λj hj=>?_⟩,h3.mono (λj hj=>?_)⟩
 .rcases hj with hj|hj
  .exact Nat.lt_of_lt_of_le (hl j hj) h3.size
  .exact hj.2
 .rcases hj with (hj|hj|hj)|hj
  .exact eF j hj
  .exact hj▸e4
  .exact hj▸e5
  .exact eX j hj
theorem pm.mono (h:pm w E kr NN) (hE:∀j,E j->E2 j) (hl:∀j,E2 j->j<w.heap.size):pm w E2 kr NN:=by
 obtain⟨F,X,p,s,cR,q,l,m,t,n,a1,a2,k,S,G,T,M,h,hc,hd,fZ,eF,eX,e0,e1,e2,e3,e4,e5,e6,e7,_⟩:=h;exact⟨F,X,p,s,cR,q,l,m,t,n,a1,a2,k,S,G,T,M,h,hc,hd,fZ,λj hj=>hE j (eF j hj),λj hj=>hE j (eX j hj),hE _ e0,hE _ e1,hE _ e2,hE _ e3,hE _ e4,hE _ e5,hE _ e6,hE _ e7,hl⟩
theorem pm.still (h:pm w E kr NN) (hb:Below w.heap.size w w'):gZ w w' E kr NN (.returned (.bool true)):=
   ⟨rfl,(h.later hb).mono (λ_ h=> .inl h) (λj hj=>by
  rcases hj with hj|hj
  .exact Nat.lt_of_lt_of_le (h.lt j hj) hb.size
  .exact hj.2),ad.ag _ hb⟩
theorem gZ.kV {e:Ending} (h:gZ w0 w' E kr NN e) (hb:Below w.heap.size w w0):gZ w w' E kr NN e:=by
 obtain⟨he,hr,hk⟩:=h;have z:=hb.size;have hl:=hr.lt;exact⟨he,hr.mono (λj hj=>hj.imp (λe=>e) (λe=>⟨by omega,e.2⟩)) (λj hj=>by
  rcases hj with hj|hj
  .exact hl j (.inl hj)
  .exact hj.2),(ad.ag _ hb).trans hk (λ_ h=> .inl h)⟩
theorem Rq.rg {F X:Nat->Prop} {p s q l m t n k:Nat} {S:DS} {G:SG} {M:MP} {e:Ending} (h:Rq w w' F F X kr p s q l m t n k S G M e) (hc:LK {G with busy:=true} S ⟨[],0,false⟩ M.begun) (hd:Dv S s {G with busy:=true} NN) (fZ:G.y.data=2+G.y.nodes / 4) (eF:∀j,F j->E j) (eX:∀j,X j->E j) (e0:E kr) (e1:E q) (e2:E l) (e3:E m) (e4:E t) (e5:E n) (hl:∀j,E j->j<w.heap.size):gZ w w' E kr NN e:=by
 obtain⟨he,c',t',n',b1,b2,X',h1,h2,h3,z1,z2,z3,z4⟩:=h;have o:=h1.x.low;refine⟨he,⟨F,X',p,s,c',q,l,m,t',n',b1,b2,k,S,_,_,_,h1,hc,hd,fZ,λj hj=> .inl (eF j hj),λj hj=>(h2 j hj).imp (eX j) (λe=>⟨e,h1.xl j hj⟩), .inl e0, .inl e1, .inl e2, .inl e3, .inr ⟨z1,o.2.2.2.2.1⟩, .inr ⟨z2,o.2.2.2.2.2⟩, .inr ⟨z3,h1.p1.lt⟩, .inr ⟨z4,h1.p2.lt⟩,λj hj=>?_⟩,h3.mono (λj hj=>?_)⟩
 .rcases hj with hj|hj
  .exact Nat.lt_of_lt_of_le (hl j hj) h3.size
  .exact hj.2
 .rcases hj with (hj|hj|hj)|hj|hj|hj|hj|hj
  .exact eF j hj
  .exact hj▸e4
  .exact hj▸e5
  .exact hj▸e1
  .exact hj▸e2
  .exact hj▸e3
  .exact hj▸e0
  .exact eX j hj
theorem pm.up {N2:Nat} (h:pm w E kr NN) (hN:NN<=N2):pm w E kr N2:=by
 obtain⟨F,X,p,s,cR,q,l,m,t,n,a1,a2,k,S,G,T,M,h,hc,hd,hr⟩:=h;exact⟨F,X,p,s,cR,q,l,m,t,n,a1,a2,k,S,G,T,M,h,hc,hd.more hN,hr⟩
theorem gZ.up {N2:Nat} {e:Ending} (h:gZ w w' E kr NN e) (hN:NN<=N2):gZ w w' E kr N2 e:=⟨h.1,h.2.1.up hN,h.2.2⟩
theorem xq.rg {F X:Nat->Prop} {p s q l m t n a1 a2 k:Nat} {y:LY} {e:Ending} (h:xq w w' F X kr p s q l m t n a1 a2 k NN y e) (fZ:y.data=2+y.nodes / 4) (eF:∀j,F j->E j) (eX:∀j,X j->E j) (e0:E kr) (e1:E q) (e2:E l) (e3:E m) (e4:E t) (e5:E n) (e6:E a1) (e7:E a2) (hl:∀j,E j->j<w.heap.size):gZ w w' E kr NN e:=by
 obtain⟨he,F',X',S',G',T',M',c',t',n',b1,b2,h1,hc,ly,hy,Pv,hk⟩:=h;have o:=h1.x.low;have old:∀j,(cq F t n j\/X j\/j=a1\/j=a2)->E j:=λj hj=>by
  rcases hj with (hj|hj|hj)|hj|hj|hj
  .exact eF j hj
  .exact hj▸e4
  .exact hj▸e5
  .exact eX j hj
  .exact hj▸e6
  .exact hj▸e7
 have new:∀j,(F' j\/X' j\/j=t'\/j=n'\/j=b1\/j=b2)->j<w'.heap.size->E j\/(w.heap.size<=j/\j<w'.heap.size):=λj hj aS=>(Pv j hj).imp (old j) (λe=>⟨e,aS⟩);refine⟨he,⟨F',X',p,s,c',q,l,m,t',n',b1,b2,k,S',G',T',M',h1,hc,ly,by rw [hy];exact fZ,λj hj=>new j (.inl hj) (o.1 j hj),λj hj=>new j (.inr (.inl hj)) (h1.xl j hj), .inl e0, .inl e1, .inl e2, .inl e3,new t' (.inr (.inr (.inl rfl))) o.2.2.2.2.1,new n' (.inr (.inr (.inr (.inl rfl)))) o.2.2.2.2.2,new b1 (.inr (.inr (.inr (.inr (.inl rfl))))) h1.p1.lt,new b2 (.inr (.inr (.inr (.inr (.inr rfl))))) h1.p2.lt,λj hj=>?_⟩,hk.mono (λj hj=>?_)⟩
 .rcases hj with hj|hj
  .exact Nat.lt_of_lt_of_le (hl j hj) hk.size
  .exact hj.2
 .rcases hj with (hj|hj|hj)|hj|hj|hj|hj|hj
  .exact eF j hj
  .exact hj▸e4
  .exact hj▸e5
  .exact hj▸e1
  .exact hj▸e2
  .exact hj▸e3
  .exact hj▸e0
  .exact eX j hj
theorem KL.rgl {g:Ld} {e:Ending} (h:KL w w' g e):∃kr,e= .returned (.pointer (some ⟨kr,0,none⟩))/\pm w' (λj=>w.heap.size<=j/\j<w'.heap.size) kr 0/\Below w.heap.size w w':=by
 obtain⟨F,X,kr,p,cR,q,l,m,t,n,a1,a2,k,S,L,rfl,Bb,h,hf,eF,eX,e1,e2,e3,e4,e5,e6,e7,hb⟩:=h;obtain⟨o1,o2,o3,o4,o5,o6⟩:=h.x.low;have GR:∀b,b<(Oh g).blocks->(⟨[],0,false⟩:TG).bq ⟨Oh g,L, [],true⟩ S b=zs 512:=λb hb=>by
  unfold TG.bq SG.block;show S.now (3+g.l+b)=zs 512;exact hf.z _ (by omega) (by have:b<g.s-(3+g.l):=hb;omega)
 have YZ:2<=(Oh g).blocks:=h.x.yk.b2;have ia:(MP.new g).begun.blocks=(Oh g).blocks:=by show g.s-3-g.l=g.s-(3+g.l);omega
 have Gr:(MP.new g).begun.raw=List.replicate (g.s-3-g.l) (zs 512):=rfl;refine⟨kr,rfl,⟨F,X,p,g.s,cR,q,l,m,t,n,a1,a2,k,S,_,_,_,h,?_, .inl ⟨hf.f,⟨4,Nat.le_refl _,hf.inv⟩,hf.life,h.x.st.bg,List.Pairwise.nil,(λq hq=>by cases hq),hf.lh,h.x.st.hs,h.x.yk.bl,by rw [show (⟨Oh g,L, [],true⟩:SG).L=L from rfl,hf.hd];exact Nat.zero_le _⟩,rfl,λj hj=>⟨eF j hj,o1 j hj⟩,λj hj=>⟨eX j hj,h.xl j hj⟩,⟨Bb,af h.b⟩,⟨e1,o2⟩,⟨e2,o3⟩,⟨e3,o4⟩,⟨e4,o5⟩,⟨e5,o6⟩,⟨e6,h.p1.lt⟩,⟨e7,h.p2.lt⟩,λj hj=>hj.2⟩,hb⟩;have Ev:∀b,2<=b->b<(Oh g).blocks->(MP.new g).begun.raw[b]? =some ((⟨[],0,false⟩:TG).bq ⟨Oh g,L, [],true⟩ S b):=λb h1 h2=>by
  have h2':b<g.s-(3+g.l):=h2;rw [Gr,GR b h2,List.getElem?_replicate,if_pos (by omega)]
 have If:(MP.new g).begun.raw.length=(Oh g).blocks:=by
  rw [Gr,List.length_replicate];exact ia
 exact⟨rfl,rfl,rfl,hf.dead,λb=>⟨(λe=>by cases e),(λe=>by cases e)⟩,List.nodup_nil,Nat.zero_le _,(GR 0 (by omega)).trans kx.symm,(GR 1 (by omega)).trans kx.symm,Ev,ia,rfl,If,List.length_replicate,List.length_replicate,(GR 0 (by omega)).trans kx.symm,(GR 1 (by omega)).trans kx.symm,Ev,If,List.length_replicate,List.length_replicate⟩
theorem pm.cells (h:pm w E kr NN):w.cell? ⟨kr,5,none⟩=some (.bool true):=by
 obtain⟨F,X,p,s,cR,q,l,m,t,n,a1,a2,k,S,G,T,M,h,hc,hd,fZ,eF,eX,e0,e1,e2,e3,e4,e5,e6,e7,hl⟩:=h;exact aa h.b (j:=5) rfl
theorem pm.looks (h:pm w E kr NN):∃a2,w.cell? ⟨kr,3,none⟩=some (.pointer (some ⟨a2,0,none⟩))/\Calls prog 14 #[.pointer (some ⟨kr,0,none⟩), .pointer (some ⟨a2,0,none⟩)] w λe w'=>gZ w w' E kr NN e:=by
 obtain⟨F,X,p,s,cR,q,l,m,t,n,a1,a2,k,S,G,T,M,h,hc,hd,fZ,eF,eX,e0,e1,e2,e3,e4,e5,e6,e7,hl⟩:=h;exact⟨a2,aa h.b (j:=3) rfl,(OM h hc h.p2).mono (λe w' h9=>h9.rg hd fZ eF eX e0 e1 e2 e3 e4 e5 e6 e7 hl)⟩
theorem pm.clear (h:pm w E kr NN):∃a1 k,∃zz:Int,w.cell? ⟨kr,2,none⟩=some (.pointer (some ⟨a1,0,none⟩))/\Calls prog 11 #[.pointer (some ⟨a1,0,none⟩)] w λe w1=>e= .returned (.int .i64 zz)/\w1.cell? ⟨kr,4,none⟩=some (.pointer (some ⟨k,0,none⟩))/\Calls prog 12 #[.pointer (some ⟨k,0,none⟩)] w1 λe w2=>e= .returned (.int .i64 zz)/\pm w2 (λj=>E j\/(w.heap.size<=j/\j<w2.heap.size)) kr NN/\ad E w w2:=by
 obtain⟨F,X,p,s,cR,q,l,m,t,n,a1,a2,k,S,G,T,M,h,hc,hd,fZ,eF,eX,e0,e1,e2,e3,e4,e5,e6,e7,hl⟩:=h;obtain⟨zz,T1,M1,q1,q2,kZ⟩:=hc.clear h.x.yk fZ h.x.tx.ch.ok;have kc:=sP h.x h.p1;rw [q1] at kc;refine⟨a1,k,zz,aa h.b (j:=2) rfl,kc.mono (λe w1 ⟨he,dj,bo⟩=>⟨he,?_⟩)⟩;have gj:ad (λj=>cq F t n j\/X j) w w1:=bo.mono (λ_ h=> .inl h);have h1:=h.after (Y:=X) dj (h.mm.apart bo (λj ej hx=>h.qA j hx ej)) gj (λ_ h=> .inl h);have km:=vU h1.mm h1.xl (by have:=hc.DD;omega) (by have:=h1.x.yk.nd;have:=hc.mn;omega);unfold MO at km;rw [q2] at km;refine⟨aa h1.b (j:=4) rfl,km.mono (λe w2 ⟨Zh,fi,aK⟩=>?_)⟩;have z1:=bo.size;have hS:lc w w2 F X kr p s q l m t n a1 a2 k S G (.returned (.bool true)):=by
  refine⟨rfl,_,T1,M1,_,h1.after (h1.x.apart aK (λj hj=>?_)) fi (aK.mono (λ_ h=> .inr h)) (λ_ h=>h),kZ,gj.trans (aK.mono (λ_ h=> .inr h)) (λ_ h=> .inl h),λj hj=>hj.imp (λe=>e) (λe=>⟨by have:=e.1;omega,e.2⟩)⟩;have h9:=h1.xa j hj;exact⟨h9.1,h9.2.1,h9.2.2.1,h9.2.2.2.1,h9.2.2.2.2.1,h9.2.2.2.2.2.1⟩
 have hR:=hS.rg hd fZ eF eX e0 e1 e2 e3 e4 e5 e6 e7 hl;exact⟨Zh,hR.2.1,hR.2.2⟩
def AS (kd:Int):Prop:=kd=1\/kd=2\/kd=3\/kd=4\/kd=5\/kd=6
theorem AS.of1:AS 1:= .inl rfl
theorem AS.of2:AS 2:= .inr (.inl rfl)
theorem AS.of3:AS 3:= .inr (.inr (.inl rfl))
theorem AS.of4:AS 4:= .inr (.inr (.inr (.inl rfl)))
theorem AS.of5:AS 5:= .inr (.inr (.inr (.inr (.inl rfl))))
theorem AS.of6:AS 6:= .inr (.inr (.inr (.inr (.inr (rfl)))))
def Vd (kd:Int):Prop:=kd=1\/kd=2\/kd=3\/kd=4\/kd=5\/kd=6\/kd=7\/kd=8\/kd=9\/kd=10\/kd=11\/kd=12\/kd=13\/kd=14\/kd=15
theorem pm.step (h:pm w E kr NN) (hNN:NN+17<=1073741824) (hN:nN N) (hs:∀w',ad E w w'->Src w' da dn dl) (ey:Bytes dl) (GV:dn<=140737488355328) (kd:Int) (NK:Vd kd):
  Calls prog 15 #[.pointer (some ⟨kr,0,none⟩),rM kd N who two da dn dc] w λe w'=>gZ w w' E kr (NN+17) e:=by
 have hRG:=h;obtain⟨F,X,p,s,cR,q,l,m,t,n,a1,a2,k,S,G,T,M,h,hc,hd,fZ,eF,eX,e0,e1,e2,e3,e4,e5,e6,e7,hl⟩:=h;have fD:=an w (aY kd N who two da dn dc);have bw:=heap_alloc_new w (aY kd N who two da dn dc);have g0:(w.alloc (aY kd N who two da dn dc)).cell? ⟨w.heap.size,0,none⟩=some (.int .i64 kd):=aa bw (j:=0) rfl;have g1:(w.alloc (aY kd N who two da dn dc)).cell? ⟨w.heap.size,1,none⟩=some (.int .i64 N):=aa bw (j:=1) rfl;have g2:(w.alloc (aY kd N who two da dn dc)).cell? ⟨w.heap.size,2,none⟩=some (.bool who):=aa bw (j:=2) rfl;have g3:(w.alloc (aY kd N who two da dn dc)).cell? ⟨w.heap.size,3,none⟩=some (.bool two):=aa bw (j:=3) rfl;have g4:(w.alloc (aY kd N who two da dn dc)).cell? ⟨w.heap.size,4,none⟩=some (.slice da dn dc):=aa bw (j:=4) rfl;have h0:=h.later fD;have oY:∀j,E j->j<(w.alloc (aY kd N who two da dn dc)).heap.size:=λj hj=>Nat.lt_of_lt_of_le (hl j hj) fD.size;have r2:(w.alloc (aY kd N who two da dn dc)).cell? ⟨kr,2,none⟩=some (.pointer (some ⟨a1,0,none⟩)):=aa h0.b (j:=2) rfl;have r3:(w.alloc (aY kd N who two da dn dc)).cell? ⟨kr,3,none⟩=some (.pointer (some ⟨a2,0,none⟩)):=aa h0.b (j:=3) rfl;have r4:(w.alloc (aY kd N who two da dn dc)).cell? ⟨kr,4,none⟩=some (.pointer (some ⟨k,0,none⟩)):=aa h0.b (j:=4) rfl;obtain⟨pa,gh,hpw,U6⟩:∃pa,ar (w.alloc (aY kd N who two da dn dc)) F pa t n/\pa=(if who then a2 else a1)/\(pa=a1\/pa=a2):=by
  cases who
  .exact⟨a1,h0.p1,rfl, .inl rfl⟩
  .exact⟨a2,h0.p2,rfl, .inr rfl⟩
 have Lg:∀{e:Ending} {w':World},lc (w.alloc (aY kd N who two da dn dc)) w' F X kr p s q l m t n a1 a2 k S G e->gZ w w' E kr (NN+17) e:=λh9=>(gZ.kV (h9.rg hd fZ eF eX e0 e1 e2 e3 e4 e5 e6 e7 oY) fD).up (by omega);have K1:Yh (AS kd->Calls prog 36 #[.pointer (some ⟨kr,0,none⟩), .pointer (some ⟨pa,0,none⟩),rM kd N who two da dn dc] (w.alloc (aY kd N who two da dn dc)) λe w'=>gZ w w' E kr (NN+17) e):=λe=>by
  rcases e with rfl|rfl|rfl|rfl|rfl|rfl
  .exact(DI h0 hc fZ gh).mono (λe w' h9=>Lg h9)
  .exact(Gc h0 hc fZ gh).mono (λe w' h9=>Lg h9)
  .exact(Ge h0 hc fZ gh).mono (λe w' h9=>Lg h9)
  .exact(Gd h0 hc fZ gh).mono (λe w' h9=>Lg h9)
  .exact(Gf h0 hc fZ gh).mono (λe w' h9=>Lg h9)
  .exact(Gg h0 hc fZ gh).mono (λe w' h9=>Lg h9)
 have D7:Yh (kd=11->Calls prog 38 #[.pointer (some ⟨kr,0,none⟩), .pointer (some ⟨pa,0,none⟩),rM kd N who two da dn dc] (w.alloc (aY kd N who two da dn dc)) λe w'=>gZ w w' E kr (NN+17) e):=λe=>by
  subst e;exact(OK h0 hc gh hN (λw' hk=>hs w' ((ad.ag _ fD).trans (hk.mono (λj hj=>by
   rcases hj with (hj|hj|hj)|hj
   .exact eF j hj
   .exact hj▸e4
   .exact hj▸e5
   .exact eX j hj)) (λ_ h=> .inl h))) ey GV).mono (λe w' h9=>Lg h9)
 have K7:Yh (Calls prog 14 #[.pointer (some ⟨kr,0,none⟩), .pointer (some ⟨pa,0,none⟩)] (w.alloc (aY kd N who two da dn dc)) λe w'=>gZ w w' E kr (NN+17) e):=(OM h0 hc gh).mono (λe w' h9=>Lg h9);have K9:Yh (Calls prog 37 #[.pointer (some ⟨kr,0,none⟩), .pointer (some ⟨pa,0,none⟩), .int .i64 9] (w.alloc (aY kd N who two da dn dc)) λe w'=>gZ w w' E kr (NN+17) e):=by
  by_cases qd:M.dead=true
  .exact(OT h0 hc hd qd gh).mono (λe w' h9=>(gZ.kV (h9.rg fZ eF eX e0 e1 e2 e3 e4 e5 e6 e7 oY) fD).up (by omega))
  .have SF:M.dead=false:=(by simpa using qd);exact(KG h0 hc SF gh U6).mono (λe w' h9=>(gZ.kV (h9.rg hc.begun (.inl ((hd.alive (hc.dd.trans SF)).busy true)) fZ eF eX e0 e1 e2 e3 e4 e5 oY) fD).up (by omega))
 have K8:Yh (Calls prog 37 #[.pointer (some ⟨kr,0,none⟩), .pointer (some ⟨pa,0,none⟩), .int .i64 8] (w.alloc (aY kd N who two da dn dc)) λe w'=>gZ w w' E kr (NN+17) e):=by
  by_cases bu:M.state=0
  .have SF:M.dead=false:=by
    cases hx:M.dead
    .rfl
    .unfold MP.state at bu;rw [hx] at bu;cases bu
   exact(OP h0 hc (hd.alive (hc.dd.trans SF)) hNN bu gh U6).mono (λe w' h9=>gZ.kV (h9.rg fZ eF eX e0 e1 e2 e3 e4 e5 e6 e7 oY) fD)
  .exact(OQ h0 hc hd bu gh).mono (λe w' h9=>(gZ.kV (h9.rg fZ eF eX e0 e1 e2 e3 e4 e5 e6 e7 oY) fD).up (by omega))
 have r0:(w.alloc (aY kd N who two da dn dc)).cell? ⟨kr,0,none⟩=some (.pointer (some ⟨p,0,none⟩)):=aa h0.b (j:=0) rfl;have r1:(w.alloc (aY kd N who two da dn dc)).cell? ⟨kr,1,none⟩=some (.pointer (some ⟨q,0,none⟩)):=aa h0.b (j:=1) rfl;have D8:Yh (Calls prog 41 #[.pointer (some ⟨q,0,none⟩)] (w.alloc (aY kd N who two da dn dc)) λe w'=>e= .returned (.int .i64 (if M.dead then 3 else 0))/\w'.cell? ⟨kr,4,none⟩=some (.pointer (some ⟨k,0,none⟩))/\w'.cell? ⟨k,12,none⟩=some (.bool M.dead)/\gZ w w' E kr (NN+17) (.returned (.bool true))):=by
  have fin:∀(w1:World) (S1:DS) (G1:SG),TX w1 (more F (w.alloc (aY kd N who two da dn dc)) w1) p s (cR+2) q l m t n S1 G1 T->LK G1 S1 T M->Dv S1 s G1 NN->G1.y=G.y->ad (λk=>F k\/k=l\/k=m) (w.alloc (aY kd N who two da dn dc)) w1->w1.cell? ⟨kr,4,none⟩=some (.pointer (some ⟨k,0,none⟩))/\w1.cell? ⟨k,12,none⟩=some (.bool M.dead)/\gZ w w1 E kr (NN+17) (.returned (.bool true)):=λw1 S1 G1 dj kZ kE hy1 bo=>by
   have gj:ad (λj=>F j\/j=l\/j=m\/j=t\/j=n\/j=q) (w.alloc (aY kd N who two da dn dc)) w1:=bo.mono (λj hj=>by
    rcases hj with hj|hj|hj
    .exact .inl hj
    .exact .inr (.inl hj)
    .exact .inr (.inr (.inl hj)))
   have cI:=h0.q6 dj gj;refine⟨aa cI.b (j:=4) rfl,cI.mm.Ix.1,(gZ.kV (xq.rg (p:=p) (s:=s) (q:=q) (l:=l) (m:=m) (t:=t) (n:=n) (a1:=a1) (a2:=a2) (k:=k) (F:=F) (X:=X) ⟨rfl,_,X,S1,G1,T,M,_,t,n,a1,a2,cI,kZ,kE,hy1,λj hj=>?_,bo.mono (λj hj=>?_)⟩ fZ eF eX e0 e1 e2 e3 e4 e5 e6 e7 oY) fD).up (by omega)⟩
   .rcases hj with hj|hj|hj|hj|hj|hj
    .rcases hj with hj|hj
     .exact .inl (.inl (.inl hj))
     .exact .inr hj.1
    .exact .inl (.inr (.inl hj))
    .exact .inl (.inl (.inr (.inl hj)))
    .exact .inl (.inl (.inr (.inr hj)))
    .exact .inl (.inr (.inr (.inl hj)))
    .exact .inl (.inr (.inr (.inr hj)))
   .rcases hj with hj|hj|hj
    .exact .inl (.inl hj)
    .exact .inr (.inr (.inl hj))
    .exact .inr (.inr (.inr (.inl hj)))
  by_cases qd:M.dead=true
  .refine(h0.x.OS (hc.dd.trans qd)).mono ?_;rintro e w1 ⟨rfl,dj,bo⟩;exact⟨by rw [qd];rfl,fin w1 S G dj hc hd rfl bo⟩
  .have SF:M.dead=false:=(by simpa using qd);obtain⟨S1,G1,c1,c2,c3,kq⟩:=h0.x.check (hd.alive (hc.dd.trans SF));refine kq.mono ?_;rintro e w1 ⟨rfl,dj,bo⟩;exact⟨by rw [SF];rfl,fin w1 S1 G1 dj (hc.check c2 (c1.dead.trans SF.symm) h.x.yk.b2 c3) (.inl c1) c2 bo⟩
 have D9:Yh (Calls prog 42 #[.pointer (some ⟨p,0,none⟩)] (w.alloc (aY kd N who two da dn dc)) λe w'=>∃z,e= .returned (.int .i64 z)/\w'.cell? ⟨kr,4,none⟩=some (.pointer (some ⟨k,0,none⟩))/\w'.frozen? ⟨k,12,none⟩=false/\(∃u,w'.cell? ⟨k,12,none⟩=some (.bool u))/\gZ w (w'.setCell ⟨k,12,none⟩ (.bool true)) E kr (NN+17) (.returned (.bool true))):=by
  obtain⟨d1,d2⟩:=hd.take hNN;refine(h0.x.take).mono ?_;rintro e w1 ⟨z,rfl,dj,bo⟩;have gj:ad (cq F t n) (w.alloc (aY kd N who two da dn dc)) w1:=bo.mono (λj hj=> .inl hj);obtain⟨z1,z2,z3⟩:=h0.Va;have cI:jY w1 F X kr p s cR q l m t n a1 a2 k S.take G T M:=h0.Iv dj (h0.mm.apart bo (λj e hj=>z3 j hj (.inl e))) bo (λe=>z1 (.inl e)) (λe=>z2 a1 h0.p1 (.inl e)) (λe=>z2 a2 h0.p2 (.inl e)) (λj hj=> .inl hj) (λj hj=> .inl hj) (λj hj=>(h0.xa j hj).1);obtain⟨b1,b2,b3,b4⟩:=cI.mm.Ix;have eB:jY (w1.setCell ⟨k,12,none⟩ (.bool true)) F X kr p s cR q l m t n a1 a2 k S.take G T {M with dead:=true}:=cI.after (cI.x.apart b4 (λj hj=>by
   have h9:=cI.xa j hj;exact⟨h9.1,h9.2.1,h9.2.2.1,h9.2.2.2.1,h9.2.2.2.2.1,h9.2.2.2.2.2.1⟩)) b3 (b4.mono (λ_ h=> .inr h)) (λ_ h=> .inl h)
  refine⟨z,rfl,aa cI.b (j:=4) rfl,b2,⟨_,b1⟩,gZ.kV (xq.rg (p:=p) (s:=s) (q:=q) (l:=l) (m:=m) (t:=t) (n:=n) (a1:=a1) (a2:=a2) (k:=k) (F:=F) (X:=X) ⟨rfl,F,X,S.take,G,T,{M with dead:=true},_,t,n,a1,a2,eB,hc.take d2,d1,rfl,λj hj=> .inl ?_,(gj.mono (λj e=> .inl e)).trans b4 (λj e=> .inl (.inr (.inr (.inr (.inr (.inr e))))))⟩ fZ eF eX e0 e1 e2 e3 e4 e5 e6 e7 oY) fD⟩;rcases hj with hj|hj|hj|hj|hj|hj
  .exact .inl (.inl hj)
  .exact .inr (.inl hj)
  .exact .inl (.inr (.inl hj))
  .exact .inl (.inr (.inr hj))
  .exact .inr (.inr (.inl hj))
  .exact .inr (.inr (.inr hj))
 have Ea:Yh (Calls prog 39 #[.pointer (some ⟨t,0,none⟩)] (w.alloc (aY kd N who two da dn dc)) λe w'=>e= .returned (.int .i64 M.state)/\Below (w.alloc (aY kd N who two da dn dc)).heap.size (w.alloc (aY kd N who two da dn dc)) w'):=by
  rw [<-hc.state];exact gg h0.x.st h0.x.tx
 have Eb:Yh (kd=10->Calls prog 38 #[.pointer (some ⟨kr,0,none⟩), .pointer (some ⟨pa,0,none⟩),rM kd N who two da dn dc] (w.alloc (aY kd N who two da dn dc)) λe w'=>gZ w w' E kr (NN+17) e):=λe=>by
  subst e;by_cases kj:2+iz N 0 29<G.y.blocks
  .exact(OO h0 hc gh hN (λw' hk=>hs w' ((ad.ag _ fD).trans (hk.mono (λj hj=>by
    rcases hj with (hj|hj|hj)|hj
    .exact eF j hj
    .exact hj▸e4
    .exact hj▸e5
    .exact eX j hj)) (λ_ h=> .inl h))) ey GV kj).mono (λe w' h9=>Lg h9)
  .exact(KI h0 hc hN kj).mono (λe w' h9=>Lg h9)
 obtain⟨zs,Ye⟩:∃zs,zs=(M.aT N).1:=⟨_,rfl⟩;have Ec:Yh (∀w1,Below (w.alloc (aY kd N who two da dn dc)).heap.size (w.alloc (aY kd N who two da dn dc)) w1->Calls prog 24 #[.pointer (some ⟨t,0,none⟩), .int .i64 N] w1 λe w2=>e= .returned (.int .i64 zs)/\w2.cell? ⟨pa,0,none⟩=some (.pointer (some ⟨t,0,none⟩))/\w2.cell? ⟨w.heap.size,1,none⟩=some (.int .i64 N)/\w2.cell? ⟨kr,4,none⟩=some (.pointer (some ⟨k,0,none⟩))/\(∀w3,Below w2.heap.size w2 w3->Calls prog 40 #[.pointer (some ⟨k,0,none⟩), .int .i64 N] w3 λe w4=>e= .returned (.int .i64 zs)/\gZ w w4 E kr (NN+17) (.returned (.bool true))/\w4.cell? ⟨kr,4,none⟩=some (.pointer (some ⟨k,0,none⟩))/\w4.cell? ⟨w.heap.size,1,none⟩=some (.int .i64 N))):=λw1 aq=>by
  have h1:=h0.later aq;have me:=h.x.low;refine(h1.x.aT N).mono ?_;rintro e w2 ⟨rfl,dV,aK⟩;obtain⟨q1,DY⟩:=hc.aT N;have Rv:ad (cq F t n) w1 w2:=aK.mono (λj e=> .inr (.inl e));have h2:=h1.after (Y:=X) dV (h1.mm.apart Rv (λj ej hx=>h1.qA j hx ej)) (Rv.mono (λ_ h=> .inl h)) (λ_ h=> .inl h);have Zs:=(aq.block _ (af bw)).trans bw;have Ve:=(aK.block _ (af Zs) (λe=>by have:=me.2.2.2.2.1;omega)).trans Zs;refine⟨by rw [q1,Ye],((gh.later aq).ak Rv).c0,aa Ve (j:=1) rfl,aa h2.b (j:=4) rfl,λw3 bH=>?_⟩;have h3:=h2.later bH;have Zt:=(bH.block _ (af Ve)).trans Ve;refine(Gp h3.mm N).mono ?_;rintro e w4 ⟨rfl,wK,dF⟩;refine⟨by rw [Ye],Lg (h3.both aq ((Rv.mono (λ_ h=> .inl h)).trans (ad.ag (λ_=>False) bH) (λ_ h=>h.elim)) DY (wK.mono (λ_ h=> .inl h)) dF),?_,?_⟩
  .exact aa ((dF.block kr (af h3.b) (λe=>(h3.xa kr e).2.2.2.2.2.2.1 rfl)).trans h3.b) (j:=4) rfl
  .exact aa ((dF.block _ (af Zt) (λe=>Nat.lt_irrefl _ (h.xl _ e))).trans Zt) (j:=1) rfl
 have HMM:=yh h0.mm;have HRG:=yh (And.intro hRG fD);have c0:=gh.c0;have HW:=yh hpw;clear h hc hd fZ hN hs ey fD bw h0 gh hpw Lg oY hRG U6 Ye;rcases NK with rfl|rfl|rfl|rfl|rfl|rfl|rfl|rfl|rfl|rfl|rfl|rfl|rfl|rfl|rfl
 .have kc:=K1.out AS.of1;clear K1 D7 K7 K9 Ea Eb Ec K8 D8 D9;cases who
  case' false=>obtain rfl:pa=a1:=HW.o
  case' true=>obtain rfl:pa=a2:=HW.o
  all_goals
   go_enter func15,ntmps15;go_wp2_with fail;refine kc.mono ?_;intro e w1 hP;have he:=hP.1;subst he;have HE:=yh hP;clear kc hP g0 g1 g2 g3 g4 r0 r1 r2 r3 r4 c0;go_wp2;go_ret;exact HE.o
 .have kc:=K1.out AS.of2;clear K1 D7 K7 K9 Ea Eb Ec K8 D8 D9;cases who
  case' false=>obtain rfl:pa=a1:=HW.o
  case' true=>obtain rfl:pa=a2:=HW.o
  all_goals
   go_enter func15,ntmps15;go_wp2_with fail;refine kc.mono ?_;intro e w1 hP;have he:=hP.1;subst he;have HE:=yh hP;clear kc hP g0 g1 g2 g3 g4 r0 r1 r2 r3 r4 c0;go_wp2;go_ret;exact HE.o
 .have kc:=K1.out AS.of3;clear K1 D7 K7 K9 Ea Eb Ec K8 D8 D9;cases who
  case' false=>obtain rfl:pa=a1:=HW.o
  case' true=>obtain rfl:pa=a2:=HW.o
  all_goals
   go_enter func15,ntmps15;go_wp2_with fail;refine kc.mono ?_;intro e w1 hP;have he:=hP.1;subst he;have HE:=yh hP;clear kc hP g0 g1 g2 g3 g4 r0 r1 r2 r3 r4 c0;go_wp2;go_ret;exact HE.o
 .have kc:=K1.out AS.of4;clear K1 D7 K7 K9 Ea Eb Ec K8 D8 D9;cases who
  case' false=>obtain rfl:pa=a1:=HW.o
  case' true=>obtain rfl:pa=a2:=HW.o
  all_goals
   go_enter func15,ntmps15;go_wp2_with fail;refine kc.mono ?_;intro e w1 hP;have he:=hP.1;subst he;have HE:=yh hP;clear kc hP g0 g1 g2 g3 g4 r0 r1 r2 r3 r4 c0;go_wp2;go_ret;exact HE.o
 .have kc:=K1.out AS.of5;clear K1 D7 K7 K9 Ea Eb Ec K8 D8 D9;cases who
  case' false=>obtain rfl:pa=a1:=HW.o
  case' true=>obtain rfl:pa=a2:=HW.o
  all_goals
   go_enter func15,ntmps15;go_wp2_with fail;refine kc.mono ?_;intro e w1 hP;have he:=hP.1;subst he;have HE:=yh hP;clear kc hP g0 g1 g2 g3 g4 r0 r1 r2 r3 r4 c0;go_wp2;go_ret;exact HE.o
 .have kc:=K1.out AS.of6;clear K1 D7 K7 K9 Ea Eb Ec K8 D8 D9;cases who
  case' false=>obtain rfl:pa=a1:=HW.o
  case' true=>obtain rfl:pa=a2:=HW.o
  all_goals
   go_enter func15,ntmps15;go_wp2_with fail;refine kc.mono ?_;intro e w1 hP;have he:=hP.1;subst he;have HE:=yh hP;clear kc hP g0 g1 g2 g3 g4 r0 r1 r2 r3 r4 c0;go_wp2;go_ret;exact HE.o
 .have kc:=K7.out;clear K1 D7 K7 K9 Ea Eb Ec K8 D8 D9;cases who
  case' false=>obtain rfl:pa=a1:=HW.o
  case' true=>obtain rfl:pa=a2:=HW.o
  all_goals
   go_enter func15,ntmps15;go_wp2_with fail;refine kc.mono ?_;intro e w1 hP;have he:=hP.1;subst he;have HE:=yh hP;clear kc hP g0 g1 g2 g3 g4 r0 r1 r2 r3 r4 c0;go_wp2;go_ret;exact HE.o
 .have kc:=K8.out;clear K1 D7 K7 K9 Ea Eb Ec K8 D8 D9;cases who
  case' false=>obtain rfl:pa=a1:=HW.o
  case' true=>obtain rfl:pa=a2:=HW.o
  all_goals
   go_enter func15,ntmps15;go_wp2_with fail;refine kc.mono ?_;intro e w1 hP;have he:=hP.1;subst he;have HE:=yh hP;clear kc hP g0 g1 g2 g3 g4 r0 r1 r2 r3 r4 c0;go_wp2;go_ret;exact HE.o
 .have kc:=K9.out;clear K1 D7 K7 K9 Ea Eb Ec K8 D8 D9;cases who
  case' false=>obtain rfl:pa=a1:=HW.o
  case' true=>obtain rfl:pa=a2:=HW.o
  all_goals
   go_enter func15,ntmps15;go_wp2_with fail;refine kc.mono ?_;intro e w1 hP;have he:=hP.1;subst he;have HE:=yh hP;clear kc hP g0 g1 g2 g3 g4 r0 r1 r2 r3 r4 c0;go_wp2;go_ret;exact HE.o
 .have kc:=Eb.out rfl;clear K1 D7 K7 K9 Ea Eb Ec K8 D8 D9;cases who
  case' false=>obtain rfl:pa=a1:=HW.o
  case' true=>obtain rfl:pa=a2:=HW.o
  all_goals
   go_enter func15,ntmps15;go_wp2_with fail;refine kc.mono ?_;intro e w1 hP;have he:=hP.1;subst he;have HE:=yh hP;clear kc hP g0 g1 g2 g3 g4 r0 r1 r2 r3 r4 c0;go_wp2;go_ret;exact HE.o
 .have kc:=D7.out rfl;clear K1 D7 K7 K9 Ea Eb Ec K8 D8 D9;cases who
  case' false=>obtain rfl:pa=a1:=HW.o
  case' true=>obtain rfl:pa=a2:=HW.o
  all_goals
   go_enter func15,ntmps15;go_wp2_with fail;refine kc.mono ?_;intro e w1 hP;have he:=hP.1;subst he;have HE:=yh hP;clear kc hP g0 g1 g2 g3 g4 r0 r1 r2 r3 r4 c0;go_wp2;go_ret;exact HE.o
 .have kc:=Ea.out;clear K1 D7 K7 K9 Ea Eb Ec K8 D8 D9;cases who
  case' false=>obtain rfl:pa=a1:=HW.o
  case' true=>obtain rfl:pa=a2:=HW.o
  all_goals
   go_enter func15,ntmps15;go_wp2_with fail;refine kc.mono ?_;rintro e w1 ⟨rfl,aq⟩;have r4':=cell_later aq r4;have pd:Yh (Below w1.heap.size w1 w1.drew):=ah (Below.refl _ _);have H7:Yh (∀w',Below w1.heap.size w1 w'->w'.cell? ⟨kr,4,none⟩=some (.pointer (some ⟨k,0,none⟩))):=λw' hb=>cell_later hb r4';have km:=de ((HMM.o.later aq).later pd.o);have kn:=bF M.state w1.drew;have HE:Yh (gZ w w1.drew E kr (NN+17) (.returned (.bool true))):=(HRG.o.1.still (HRG.o.2.trans ((aq.trans (pd.o.mono aq.size)).mono HRG.o.2.size))).up (by omega);clear kc aq g0 g1 g2 g3 g4 r0 r1 r2 r3 r4 r4' c0;generalize M.state=x at*;have VZ:(x == x)=true:=(by simp);go_wp2_with fail;refine wp_region_held_drew (S:=(λw'=>w'.cell? ⟨kr,4,none⟩=some (.pointer (some ⟨k,0,none⟩)))) (by kernel_rfl) (H7.o _ pd.o) (λaC=>?_);refine wpAnyH_take (i:=0) (oi:={dst:=some 60,op:=Op.move (Operand.tmp 6),type:=39,pos:= "exact.go:237",after:= #[],guard:=none}) (v:= .int .i64 x) rfl (by kernel_rfl) (by kernel_rfl) (by kernel_rfl) (λ_ _ _ h=>h) (Or.inl ⟨by rfl,?_⟩) (by assumption) ?_
   .intro w aw
    (try dsimp only at aw)
    go_simp
   try simp only [Act.put,List.setIfInBounds_toArray,List.set_cons_zero,List.set_cons_succ]
   refine wpAnyH_take (i:=2) (oi:={dst:=some 62,op:=Op.move (Operand.tmp 0),type:=28,pos:= "exact.go:237",after:= #[],guard:=none}) (v:= .pointer (some ⟨kr,0,none⟩)) rfl (by kernel_rfl) (by kernel_rfl) (by kernel_rfl) (λ_ _ _ h=>h) (Or.inl ⟨by rfl,?_⟩) (by assumption) ?_
   .intro w aw
    (try dsimp only at aw)
    go_simp
   try simp only [Act.put,List.setIfInBounds_toArray,List.set_cons_zero,List.set_cons_succ]
   refine wpAnyH_take (i:=3) (oi:={dst:=some 63,op:=Op.nilCheck (Operand.tmp 62),type:=0,pos:= "exact.go:237",after:= #[{on:=2,ground:=Ground.data}],guard:=none}) (v:= .pointer (some ⟨kr,0,none⟩)) rfl (by kernel_rfl) (by kernel_rfl) (by kernel_rfl) (λ_ _ _ h=>h) (Or.inl ⟨by rfl,?_⟩) (by assumption) ?_
   .intro w aw
    (try dsimp only at aw)
    go_simp
   try simp only [Act.put,List.setIfInBounds_toArray,List.set_cons_zero,List.set_cons_succ]
   refine wpAnyH_take (i:=4) (oi:={dst:=some 64,op:=Op.fieldAddr 38 (Operand.tmp 63) 4,type:=0,pos:= "exact.go:237",after:= #[{on:=3,ground:=Ground.data}],guard:=none}) (v:= .pointer (some ⟨kr,4,none⟩)) rfl (by kernel_rfl) (by kernel_rfl) (by kernel_rfl) (λ_ _ _ h=>h) (Or.inl ⟨by rfl,?_⟩) (by assumption) ?_
   .intro w aw
    (try dsimp only at aw)
    go_simp
   try simp only [Act.put,List.setIfInBounds_toArray,List.set_cons_zero,List.set_cons_succ]
   refine wpAnyH_take (i:=5) (oi:={dst:=some 65,op:=Op.load 36 (Operand.tmp 64),type:=36,pos:= "exact.go:237",after:= #[{on:=4,ground:=Ground.data}],guard:=none}) (v:= .pointer (some ⟨k,0,none⟩)) rfl (by kernel_rfl) (by kernel_rfl) (by kernel_rfl) (λ_ _ _ h=>h) (Or.inl ⟨by rfl,?_⟩) (by assumption) ?_
   .intro w aw
    (try dsimp only at aw)
    go_simp
   try simp only [Act.put,List.setIfInBounds_toArray,List.set_cons_zero,List.set_cons_succ]
   refine wpAnyH_ready (rs:= [1]) (by kernel_rfl) (by simp) ?_;refine AllReadyH.cons (o:={dst:=some 61,op:=Op.call {callee:=Callee.value (Operand.func 13),args:= #[Operand.tmp 60],argTypes:= #[39]},type:=3,pos:= "exact.go:237",after:= #[{on:=0,ground:=Ground.data}],guard:=none}) rfl (λK hK=>?_) AllReadyH.nil;go_simp;refine kn.mono ?_;rintro e wx ⟨rfl,cU⟩;have bR:=cU.symm;subst bR;clear cU;refine hK.out _ _ ?_ (λaC=>?_)
   .exact H7.o _ pd.o
   clear hK K;try simp only [Act.put,List.setIfInBounds_toArray,List.set_cons_zero,List.set_cons_succ]
   refine wpAnyH_ready (rs:= [6]) (by kernel_rfl) (by simp) ?_;refine AllReadyH.cons (o:={dst:=some 66,op:=Op.call {callee:=Callee.value (Operand.func 29),args:= #[Operand.tmp 65],argTypes:= #[36]},type:=3,pos:= "exact.go:237",after:= #[{on:=5,ground:=Ground.data},{on:=1,ground:=Ground.chain}],guard:=none}) rfl (λK hK=>?_) AllReadyH.nil;go_simp;refine km.mono ?_;rintro e wx ⟨rfl,cU⟩;have bR:=cU.symm;subst bR;clear cU;refine hK.out _ _ ?_ (λaC=>?_)
   .exact H7.o _ pd.o
   clear hK K;try simp only [Act.put,List.setIfInBounds_toArray,List.set_cons_zero,List.set_cons_succ]
   refine wpAnyH_take (i:=7) (oi:={dst:=some 67,op:=Op.binOp BinOp.eql 3 (Operand.tmp 61) (Operand.tmp 66) 3,type:=4,pos:= "exact.go:237",after:= #[{on:=1,ground:=Ground.data},{on:=6,ground:=Ground.data}],guard:=none}) (v:= .bool true) rfl (by kernel_rfl) (by kernel_rfl) (by kernel_rfl) (λ_ _ _ h=>h) (Or.inl ⟨by rfl,?_⟩) (by assumption) ?_
   .intro w aw
    (try dsimp only at aw)
    go_simp
   try simp only [Act.put,List.setIfInBounds_toArray,List.set_cons_zero,List.set_cons_succ]
   refine wpAnyH_ready (rs:= [8]) (by kernel_rfl) (by simp) ?_;refine AllReadyH.cons (o:={dst:=some 4,op:=Op.assign (Operand.tmp 67),type:=4,pos:= "exact.go:237",after:= #[{on:=7,ground:=Ground.data},{on:=6,ground:=Ground.chain},{on:=0,ground:=Ground.phase},{on:=1,ground:=Ground.phase},{on:=2,ground:=Ground.phase},{on:=3,ground:=Ground.phase},{on:=4,ground:=Ground.phase},{on:=5,ground:=Ground.phase},{on:=6,ground:=Ground.phase},{on:=7,ground:=Ground.phase}],guard:=none}) rfl (λK hK=>?_) AllReadyH.nil;go_simp;refine hK.out _ _ ?_ (λaC=>?_)
   .exact H7.o _ pd.o
   clear hK K;try simp only [Act.put,List.setIfInBounds_toArray,List.set_cons_zero,List.set_cons_succ]
   refine wpAnyH_done (by kernel_rfl) ?_ _;go_wp2;go_ret;exact HE.o
 .have kc:=Ec.out;clear K1 D7 K7 K9 Ea Eb Ec K8 D8 D9;have pd:Yh (Below (w.alloc (aY 13 N who two da dn dc)).heap.size (w.alloc (aY 13 N who two da dn dc)) (w.alloc (aY 13 N who two da dn dc)).drew):=ah (Below.refl _ _);have H24:Yh (∀w',Below (w.alloc (aY 13 N who two da dn dc)).heap.size (w.alloc (aY 13 N who two da dn dc)) w'->w'.cell? ⟨pa,0,none⟩=some (.pointer (some ⟨t,0,none⟩))/\w'.cell? ⟨w.heap.size,1,none⟩=some (.int .i64 N)):=λw' hb=>⟨cell_later hb c0,cell_later hb g1⟩;have VZ:(zs == zs)=true:=by simp
  cases who
  case' false=>obtain rfl:pa=a1:=HW.o
  case' true=>obtain rfl:pa=a2:=HW.o
  all_goals
   go_enter func15,ntmps15;go_wp2_with fail;refine wp_region_held_drew (S:=(λw'=>w'.cell? ⟨pa,0,none⟩=some (.pointer (some ⟨t,0,none⟩))/\w'.cell? ⟨w.heap.size,1,none⟩=some (.int .i64 N))) (by kernel_rfl) (H24.o _ pd.o) (λaC=>?_);refine wpAnyH_take (i:=0) (oi:={dst:=some 70,op:=Op.move (Operand.tmp 5),type:=35,pos:= "exact.go:239",after:= #[],guard:=none}) (v:= .pointer (some ⟨pa,0,none⟩)) rfl (by kernel_rfl) (by kernel_rfl) (by kernel_rfl) (λ_ _ _ h=>h) (Or.inl ⟨by rfl,?_⟩) (by assumption) ?_
   .intro w aw
    (try dsimp only at aw)
    go_simp
   try simp only [Act.put,List.setIfInBounds_toArray,List.set_cons_zero,List.set_cons_succ]
   refine wpAnyH_take (i:=1) (oi:={dst:=some 71,op:=Op.nilCheck (Operand.tmp 70),type:=0,pos:= "exact.go:239",after:= #[{on:=0,ground:=Ground.data}],guard:=none}) (v:= .pointer (some ⟨pa,0,none⟩)) rfl (by kernel_rfl) (by kernel_rfl) (by kernel_rfl) (λ_ _ _ h=>h) (Or.inl ⟨by rfl,?_⟩) (by assumption) ?_
   .intro w aw
    (try dsimp only at aw)
    go_simp
   try simp only [Act.put,List.setIfInBounds_toArray,List.set_cons_zero,List.set_cons_succ]
   refine wpAnyH_take (i:=2) (oi:={dst:=some 72,op:=Op.fieldAddr 59 (Operand.tmp 71) 0,type:=0,pos:= "exact.go:239",after:= #[{on:=1,ground:=Ground.data}],guard:=none}) (v:= .pointer (some ⟨pa,0,none⟩)) rfl (by kernel_rfl) (by kernel_rfl) (by kernel_rfl) (λ_ _ _ h=>h) (Or.inl ⟨by rfl,?_⟩) (by assumption) ?_
   .intro w aw
    (try dsimp only at aw)
    go_simp
   try simp only [Act.put,List.setIfInBounds_toArray,List.set_cons_zero,List.set_cons_succ]
   refine wpAnyH_take (i:=3) (oi:={dst:=some 73,op:=Op.load 57 (Operand.tmp 72),type:=57,pos:= "exact.go:239",after:= #[{on:=2,ground:=Ground.data}],guard:=none}) (v:= .pointer (some ⟨t,0,none⟩)) rfl (by kernel_rfl) (by kernel_rfl) (by kernel_rfl) (λ_ _ _ h=>h) (Or.inl ⟨by rfl,?_⟩) (by assumption) ?_
   .intro w aw
    (try dsimp only at aw)
    go_simp
   try simp only [Act.put,List.setIfInBounds_toArray,List.set_cons_zero,List.set_cons_succ]
   refine wpAnyH_take (i:=4) (oi:={dst:=some 74,op:=Op.fieldAddr 46 (Operand.tmp 3) 1,type:=0,pos:= "exact.go:239",after:= #[],guard:=none}) (v:= .pointer (some ⟨w.heap.size,1,none⟩)) rfl (by kernel_rfl) (by kernel_rfl) (by kernel_rfl) (λ_ _ _ h=>h) (Or.inl ⟨by rfl,?_⟩) (by assumption) ?_
   .intro w aw
    (try dsimp only at aw)
    go_simp
   try simp only [Act.put,List.setIfInBounds_toArray,List.set_cons_zero,List.set_cons_succ]
   refine wpAnyH_take (i:=5) (oi:={dst:=some 75,op:=Op.load 3 (Operand.tmp 74),type:=3,pos:= "exact.go:239",after:= #[{on:=4,ground:=Ground.data}],guard:=none}) (v:= .int .i64 N) rfl (by kernel_rfl) (by kernel_rfl) (by kernel_rfl) (λ_ _ _ h=>h) (Or.inl ⟨by rfl,?_⟩) (by assumption) ?_
   .intro w aw
    (try dsimp only at aw)
    go_simp
   try simp only [Act.put,List.setIfInBounds_toArray,List.set_cons_zero,List.set_cons_succ]
   refine wpAnyH_ready (rs:= [6]) (by kernel_rfl) (by simp) ?_;refine AllReadyH.cons (o:={dst:=some 76,op:=Op.call {callee:=Callee.value (Operand.func 24),args:= #[Operand.tmp 73,Operand.tmp 75],argTypes:= #[57,39]},type:=39,pos:= "exact.go:239",after:= #[{on:=3,ground:=Ground.data},{on:=5,ground:=Ground.data}],guard:=none}) rfl (λK hK=>?_) AllReadyH.nil;go_simp;refine(kc _ pd.o).mono ?_;rintro e w2 ⟨rfl,p1,p2,p3,KM⟩;refine hK.out _ _ ?_ (λaC=>?_)
   .exact⟨p1,p2⟩
   clear hK K;try simp only [Act.put,List.setIfInBounds_toArray,List.set_cons_zero,List.set_cons_succ]
   refine wpAnyH_ready (rs:= [7]) (by kernel_rfl) (by simp) ?_;refine AllReadyH.cons (o:={dst:=some 7,op:=Op.assign (Operand.tmp 76),type:=39,pos:= "exact.go:239",after:= #[{on:=6,ground:=Ground.data},{on:=6,ground:=Ground.chain},{on:=0,ground:=Ground.phase},{on:=1,ground:=Ground.phase},{on:=2,ground:=Ground.phase},{on:=3,ground:=Ground.phase},{on:=4,ground:=Ground.phase},{on:=5,ground:=Ground.phase},{on:=6,ground:=Ground.phase}],guard:=none}) rfl (λK hK=>?_) AllReadyH.nil;go_simp;refine hK.out _ _ ?_ (λaC=>?_)
   .exact⟨p1,p2⟩
   clear hK K;try simp only [Act.put,List.setIfInBounds_toArray,List.set_cons_zero,List.set_cons_succ]
   refine wpAnyH_done (by kernel_rfl) ?_ _;have HKM:=yh KM;have nU:Yh (Below w2.heap.size w2 w2.drew):=ah (Below.refl _ _);have H25:Yh (∀w',Below w2.heap.size w2 w'->w'.cell? ⟨kr,4,none⟩=some (.pointer (some ⟨k,0,none⟩))/\w'.cell? ⟨w.heap.size,1,none⟩=some (.int .i64 N)):=λw' hb=>⟨cell_later hb p3,cell_later hb p2⟩;clear kc KM aC p1 p2 p3 g0 g1 g2 g3 g4 r0 r1 r2 r3 r4 c0;go_wp2_with fail;refine wp_region_held_drew (S:=(λw'=>w'.cell? ⟨kr,4,none⟩=some (.pointer (some ⟨k,0,none⟩))/\w'.cell? ⟨w.heap.size,1,none⟩=some (.int .i64 N))) (by kernel_rfl) (H25.o _ nU.o) (λaC=>?_);refine wpAnyH_take (i:=0) (oi:={dst:=some 77,op:=Op.move (Operand.tmp 0),type:=28,pos:= "exact.go:240",after:= #[],guard:=none}) (v:= .pointer (some ⟨kr,0,none⟩)) rfl (by kernel_rfl) (by kernel_rfl) (by kernel_rfl) (λ_ _ _ h=>h) (Or.inl ⟨by rfl,?_⟩) (by assumption) ?_
   .intro w aw
    (try dsimp only at aw)
    go_simp
   try simp only [Act.put,List.setIfInBounds_toArray,List.set_cons_zero,List.set_cons_succ]
   refine wpAnyH_take (i:=1) (oi:={dst:=some 78,op:=Op.nilCheck (Operand.tmp 77),type:=0,pos:= "exact.go:240",after:= #[{on:=0,ground:=Ground.data}],guard:=none}) (v:= .pointer (some ⟨kr,0,none⟩)) rfl (by kernel_rfl) (by kernel_rfl) (by kernel_rfl) (λ_ _ _ h=>h) (Or.inl ⟨by rfl,?_⟩) (by assumption) ?_
   .intro w aw
    (try dsimp only at aw)
    go_simp
   try simp only [Act.put,List.setIfInBounds_toArray,List.set_cons_zero,List.set_cons_succ]
   refine wpAnyH_take (i:=2) (oi:={dst:=some 79,op:=Op.fieldAddr 38 (Operand.tmp 78) 4,type:=0,pos:= "exact.go:240",after:= #[{on:=1,ground:=Ground.data}],guard:=none}) (v:= .pointer (some ⟨kr,4,none⟩)) rfl (by kernel_rfl) (by kernel_rfl) (by kernel_rfl) (λ_ _ _ h=>h) (Or.inl ⟨by rfl,?_⟩) (by assumption) ?_
   .intro w aw
    (try dsimp only at aw)
    go_simp
   try simp only [Act.put,List.setIfInBounds_toArray,List.set_cons_zero,List.set_cons_succ]
   refine wpAnyH_take (i:=3) (oi:={dst:=some 80,op:=Op.load 36 (Operand.tmp 79),type:=36,pos:= "exact.go:240",after:= #[{on:=2,ground:=Ground.data}],guard:=none}) (v:= .pointer (some ⟨k,0,none⟩)) rfl (by kernel_rfl) (by kernel_rfl) (by kernel_rfl) (λ_ _ _ h=>h) (Or.inl ⟨by rfl,?_⟩) (by assumption) ?_
   .intro w aw
    (try dsimp only at aw)
    go_simp
   try simp only [Act.put,List.setIfInBounds_toArray,List.set_cons_zero,List.set_cons_succ]
   refine wpAnyH_take (i:=4) (oi:={dst:=some 81,op:=Op.fieldAddr 46 (Operand.tmp 3) 1,type:=0,pos:= "exact.go:240",after:= #[],guard:=none}) (v:= .pointer (some ⟨w.heap.size,1,none⟩)) rfl (by kernel_rfl) (by kernel_rfl) (by kernel_rfl) (λ_ _ _ h=>h) (Or.inl ⟨by rfl,?_⟩) (by assumption) ?_
   .intro w aw
    (try dsimp only at aw)
    go_simp
   try simp only [Act.put,List.setIfInBounds_toArray,List.set_cons_zero,List.set_cons_succ]
   refine wpAnyH_take (i:=5) (oi:={dst:=some 82,op:=Op.load 3 (Operand.tmp 81),type:=3,pos:= "exact.go:240",after:= #[{on:=4,ground:=Ground.data}],guard:=none}) (v:= .int .i64 N) rfl (by kernel_rfl) (by kernel_rfl) (by kernel_rfl) (λ_ _ _ h=>h) (Or.inl ⟨by rfl,?_⟩) (by assumption) ?_
   .intro w aw
    (try dsimp only at aw)
    go_simp
   try simp only [Act.put,List.setIfInBounds_toArray,List.set_cons_zero,List.set_cons_succ]
   refine wpAnyH_ready (rs:= [6]) (by kernel_rfl) (by simp) ?_;refine AllReadyH.cons (o:={dst:=some 83,op:=Op.call {callee:=Callee.value (Operand.func 40),args:= #[Operand.tmp 80,Operand.tmp 82],argTypes:= #[36,3]},type:=3,pos:= "exact.go:240",after:= #[{on:=3,ground:=Ground.data},{on:=5,ground:=Ground.data}],guard:=none}) rfl (λK hK=>?_) AllReadyH.nil;go_simp;refine(HKM.o _ nU.o).mono ?_;rintro e w4 ⟨rfl,hE,p4,p5⟩;refine hK.out _ _ ?_ (λaC=>?_)
   .exact⟨p4,p5⟩
   clear hK K;try simp only [Act.put,List.setIfInBounds_toArray,List.set_cons_zero,List.set_cons_succ]
   refine wpAnyH_ready (rs:= [7]) (by kernel_rfl) (by simp) ?_;refine AllReadyH.cons (o:={dst:=some 8,op:=Op.assign (Operand.tmp 83),type:=3,pos:= "exact.go:240",after:= #[{on:=6,ground:=Ground.data},{on:=6,ground:=Ground.chain},{on:=0,ground:=Ground.phase},{on:=1,ground:=Ground.phase},{on:=2,ground:=Ground.phase},{on:=3,ground:=Ground.phase},{on:=4,ground:=Ground.phase},{on:=5,ground:=Ground.phase},{on:=6,ground:=Ground.phase}],guard:=none}) rfl (λK hK=>?_) AllReadyH.nil;go_simp;refine hK.out _ _ ?_ (λaC=>?_)
   .exact⟨p4,p5⟩
   clear hK K;try simp only [Act.put,List.setIfInBounds_toArray,List.set_cons_zero,List.set_cons_succ]
   refine wpAnyH_done (by kernel_rfl) ?_ _;have HE:=yh hE;have kn:=bF zs w4;clear aC hE p4 p5;go_wp2_with fail;refine kn.mono ?_;rintro e wx ⟨rfl,cU⟩;have bR:=cU.symm;subst bR;clear cU kn;go_wp2;go_ret;exact HE.o
 .have kc:=D8.out;clear K1 D7 K7 K9 Ea Eb Ec K8 D8 D9;cases who
  case' false=>obtain rfl:pa=a1:=HW.o
  case' true=>obtain rfl:pa=a2:=HW.o
  all_goals
   go_enter func15,ntmps15;go_wp2_with fail;refine kc.mono ?_;rintro e w1 ⟨rfl,p1,p2,hE⟩;have HE:=yh hE;clear kc hE g0 g1 g2 g3 g4 r0 r1 r2 r3 r4 c0 HMM;generalize M.dead=dd at*;cases dd;all_goals
    dsimp only at*
    have kn3:=bF 3 w1;have kn0:=bF 0 w1;go_wp2_with fail;first
     |refine kn3.mono ?_
     |refine kn0.mono ?_
    rintro e wx ⟨rfl,cU⟩;have bR:=cU.symm;subst bR;clear cU kn3 kn0;go_wp2;go_ret;exact HE.o
 .have kc:=D9.out;clear K1 D7 K7 K9 Ea Eb Ec K8 D8 D9;cases who
  case' false=>obtain rfl:pa=a1:=HW.o
  case' true=>obtain rfl:pa=a2:=HW.o
  all_goals
   go_enter func15,ntmps15;go_wp2_with fail;refine kc.mono ?_;rintro e w1 ⟨z,rfl,p1,p2,⟨u,p3⟩,hE⟩;have HE:=yh hE;clear kc hE g0 g1 g2 g3 g4 r0 r1 r2 r3 r4 c0;go_wp2;go_ret;exact HE.o
end
end
section
open Go.ChangeShapes Go.WideShapes Go.ChangeAt Go.RowKit Go.Deep
theorem oW:prog.cellsOf 4=1:=by kernel_rfl
theorem KO:prog.bytesOf 46=48:=by kernel_rfl
theorem sU:prog.cellsOf 46=5:=by kernel_rfl
def lS (w:World) (B:Nat) (sa:Option Addr) (n:Nat):Prop:=
   (sa=none->n=0)/\∀y,sa=some y->∀i,i<n->∃b o,y=⟨b,o,none⟩/\b<B/\∃(kd N:Int) (who two:Bool) (da:Option Addr) (dn dc:Nat) (dl:List Int),w.cell? ⟨b,o+i*5,none⟩=some (.int .i64 kd)/\w.cell? ⟨b,o+i*5+1,none⟩=some (.int .i64 N)/\w.cell? ⟨b,o+i*5+2,none⟩=some (.bool who)/\w.cell? ⟨b,o+i*5+3,none⟩=some (.bool two)/\w.cell? ⟨b,o+i*5+4,none⟩=some (.slice da dn dc)/\nN N/\Src w da dn dl/\Bytes dl/\dn<=140737488355328/\∀x,da=some x->0<dn->x.block<B
theorem lS.tM {w w':World} {B:Nat} {sa:Option Addr} {n:Nat} (h:lS w B sa n) (hb:Below B w w'):lS w' B sa n:=by
 refine⟨h.1,λy hy i hi=>?_⟩;obtain⟨b,o,rfl,Hf,kd,N,who,two,da,dn,dc,dl,c0,c1,c2,c3,c4,h5,h6,h7,h8,h9⟩:=h.2 y hy i hi;have e:=hb.block b Hf;exact⟨b,o,rfl,Hf,kd,N,who,two,da,dn,dc,dl,(World.cell?_of_block (w:=w) (a:=⟨b,_,none⟩) e).trans c0,(World.cell?_of_block (w:=w) (a:=⟨b,_,none⟩) e).trans c1,(World.cell?_of_block (w:=w) (a:=⟨b,_,none⟩) e).trans c2,(World.cell?_of_block (w:=w) (a:=⟨b,_,none⟩) e).trans c3,(World.cell?_of_block (w:=w) (a:=⟨b,_,none⟩) e).trans c4,h5,h6.tM hb h9,h7,h8,h9⟩
section
variable {H:Type} {enc:TypeId×Value->H} {W:World} {base:Nat} {spare:Nat->Bool} {held:Bool}
theorem SH {P:Program} {e:TypeId} {f0 f1 f2 f3 f4:Field} {n:Nat} {cs:List Value} {x:DataW H×List MemPlace} (he:P.underlying e=some (.struct #[f0,f1,f2,f3,f4])) (ce:P.cellsOf e=5) (o0:f0.offset=0) (o1:f1.offset=1) (o2:f2.offset=2) (o3:f3.offset=3) (o4:f4.offset=4)
    (c0:P.cellsOf f0.type=1) (c1:P.cellsOf f1.type=1) (c2:P.cellsOf f2.type=1) (c3:P.cellsOf f3.type=1) (c4:P.cellsOf f4.type=1) (h:DataW.trod enc P W base spare held n e cs=some x):
  ∃v0 v1 v2 v3 v4 y0 y1 y2 y3 y4 k,cs= [v0,v1,v2,v3,v4]/\x.1= .agg [y0.1,y1.1,y2.1,y3.1,y4.1]/\DataW.trod enc P W base spare held k f0.type [v0]=some y0/\DataW.trod enc P W base spare held k f1.type [v1]=some y1/\DataW.trod enc P W base spare held k f2.type [v2]=some y2/\DataW.trod enc P W base spare held k f3.type [v3]=some y3/\DataW.trod enc P W base spare held k f4.type [v4]=some y4/\(∀m∈y4.1.weights P f4.type,m∈x.1.weights P e):=by
 obtain⟨xs,k,_,Vl,hlen,PO,hf⟩:=DataW.trod_struct he h;rw [ce] at hlen
 match xs,PO,cs,hlen with
 | [y0,y1,y2,y3,y4],_, [v0,v1,v2,v3,v4],_=>
  have g0:=hf 0 f0 rfl;have g1:=hf 1 f1 rfl;have g2:=hf 2 f2 rfl;have g3:=hf 3 f3 rfl;have g4:=hf 4 f4 rfl;simp [o0,o1,o2,o3,o4,c0,c1,c2,c3,c4] at g0 g1 g2 g3 g4;have ex:x.1= .agg [y0.1,y1.1,y2.1,y3.1,y4.1]:=by rw [Vl];rfl
  refine⟨v0,v1,v2,v3,v4,y0,y1,y2,y3,y4,k,rfl,ex,g0,g1,g2,g3,g4,λm hm=>?_⟩;rw [ex];simp [DataW.weights,he,DataW.weightsEach,hm]
theorem wd {fuel:Nat} {v:Value} {d:DataW H} {pl:List MemPlace} (h:DataW.trod enc prog W base spare held fuel 24 [v]=some (d,pl)) (hw:∀n∈d.weights prog 24,n<=reachBytes):
  ∃a n c,v= .slice a n c/\lS W W.heap.size a n/\48*n<=140737488355328:=by
 rcases open_slice underlying24 h with ⟨wI,_⟩|⟨x,len,cap,m,k,D,Pl,wI,_,hl,hm,OZ,hd,hx⟩
 .simp only [List.cons.injEq,and_true] at wI;exact⟨none,0,0,wI,⟨λ_=>rfl,(λx hx=>by cases hx)⟩,Nat.zero_le _⟩
 .simp only [List.cons.injEq,and_true] at wI;simp only [Prod.mk.injEq] at hd;replace hd:=hd.1;subst hd;have wJ:len<=m:=by rw [OZ];split <;> omega
  have h1:=hw ((((List.range len).map D).length+((List.range (m-len)).map λj=>D (len+j)).length)*prog.bytesOf 46) (by simp [DataW.weights,underlying24]);rw [KO] at h1;simp only [List.length_map,List.length_range,reachBytes] at h1;rw [sU] at hx;have hwe:∀i,i<len->∀n∈(D i).weights prog 46,n<=reachBytes:=λi hi n hn=>hw n (by
   simp only [DataW.weights,underlying24];exact List.mem_cons_of_mem _ (List.mem_append_left _ (nO (List.mem_map.2 ⟨i,List.mem_range.2 hi,rfl⟩) hn)))
  refine⟨some x,len,cap,wI,⟨(λh=>by cases h),λy hy i hi=>?_⟩,by omega⟩;cases hy;obtain⟨cs',e1,e2⟩:=hx i (by omega);obtain⟨_,hlen,fE⟩:=World.cells?_some e1;obtain⟨v0,v1,v2,v3,v4,y0,y1,y2,y3,y4,k',rfl,_,g0,g1,g2,g3,g4,hwt⟩:=SH underlying46 sU rfl rfl rfl rfl rfl gC gC oW oW uI e2;obtain⟨a,na,ca,l,rfl,hs,hb,hc,nP⟩:=En g4 (λm hm=>hwe i hi m (hwt m hm));obtain⟨n0,q0,_,w0⟩:=DataW.trod_int underlying3 g0;obtain⟨n1,q1,_,w1⟩:=DataW.trod_int underlying3 g1;obtain⟨n2,q2,_⟩:=DataW.trod_bool underlying4 g2;obtain⟨n3,q3,_⟩:=DataW.trod_bool underlying4 g3;simp only [List.cons.injEq,and_true] at q0 q1 q2 q3;subst q0 q1 q2 q3;have c0:=fE 0 (by omega);have c1:=fE 1 (by omega);have c2:=fE 2 (by omega);have c3:=fE 3 (by omega);have c4:=fE 4 (by omega);rw [add_add] at c0 c1 c2 c3 c4;obtain⟨cs0,z1,z2⟩:=hx 0 (by omega);obtain⟨b0,b1,b2,b3,b4,_,_,_,_,_,_,rfl,_⟩:=SH underlying46 sU rfl rfl rfl rfl rfl gC gC oW oW uI z2;obtain⟨_,_,Zu⟩:=World.cells?_some z1;have z0:=Zu 0 (by omega);rw [add_add] at z0;obtain⟨b,o,spot⟩:=x;have Zv:spot=none:=by simpa [Addr.add] using World.cell?_spot z0
  subst Zv;rw [aV] at c0 c1 c2 c3 c4;simp at c0 c1 c2 c3 c4;exact⟨b,o,rfl,World.block_lt_of_cell? _ _ c0,n0,n1,n2,n3,a,na,ca,l,c0,by simpa [Nat.add_assoc] using c1,by simpa [Nat.add_assoc] using c2,by simpa [Nat.add_assoc] using c3,by simpa [Nat.add_assoc] using c4,pO w1,hs,hb,nP,hs.old⟩
end
end
def yX (w wr:World) (ka kb NN:Nat):Prop:=∃E1 E2,pm wr E1 ka NN/\pm wr E2 kb NN/\(∀j,E1 j->¬E2 j)/\(∀j,E1 j->w.heap.size<=j)/\(∀j,E2 j->w.heap.size<=j)/\Below w.heap.size w wr
theorem yX.later {w wr w':World} {ka kb NN:Nat} (h:yX w wr ka kb NN) (hb:Below wr.heap.size wr w'):yX w w' ka kb NN:=by
 obtain⟨E1,E2,h1,h2,h3,h4,h5,h6⟩:=h;exact⟨E1,E2,h1.later hb,h2.later hb,h3,h4,h5,h6.trans (hb.mono h6.size)⟩
theorem yX.a {w wr w':World} {ka kb NN:Nat} {E1 E2:Nat->Prop} (h1:pm w' (λj=>E1 j\/(wr.heap.size<=j/\j<w'.heap.size)) ka NN) (hk:ad E1 wr w') (h2:pm wr E2 kb NN) (h3:∀j,E1 j->¬E2 j) (h4:∀j,E1 j->w.heap.size<=j) (h5:∀j,E2 j->w.heap.size<=j) (h6:Below w.heap.size w wr):yX w w' ka kb NN:=by
 have hl:=h2.lt;have z:=h6.size;refine⟨_,E2,h1,h2.apart hk h3,λj hj e=>?_,λj hj=>?_,h5,h6.trans (hk.below h4 h6.size)⟩
 .rcases hj with hj|hj
  .exact h3 j hj e
  .have:=hl j e;omega
 .rcases hj with hj|hj
  .exact h4 j hj
  .omega
theorem yX.up {w wr:World} {ka kb NN N2:Nat} (h:yX w wr ka kb NN) (hN:NN<=N2):yX w wr ka kb N2:=by
 obtain⟨E1,E2,h1,h2,r⟩:=h;exact⟨E1,E2,h1.up hN,h2.up hN,r⟩
theorem yX.swap {w wr:World} {ka kb NN:Nat} (h:yX w wr ka kb NN):yX w wr kb ka NN:=by
 obtain⟨E1,E2,h1,h2,h3,h4,h5,h6⟩:=h;exact⟨E2,E1,h2,h1,λj hj e=>h3 j e hj,h5,h4,h6⟩
theorem yX.step {w wr:World} {ka kb NN:Nat} {N:Int} {who two:Bool} {da:Option Addr} {dn dc:Nat} {dl:List Int} (h:yX w wr ka kb NN) (hN:nN N) (hs:Src wr da dn dl) (kD:∀x,da=some x->0<dn->x.block<w.heap.size) (ey:Bytes dl) (GV:dn<=140737488355328) (kd:Int) (NK:Vd kd) (hNN:NN+17<=1073741824):
  Calls prog 15 #[.pointer (some ⟨ka,0,none⟩),rM kd N who two da dn dc] wr λe w'=>e= .returned (.bool true)/\yX w w' ka kb (NN+17):=by
 obtain⟨E1,E2,h1,h2,h3,h4,h5,h6⟩:=h;exact(h1.step hNN hN (λw' hk=>hs.tM (hk.below h4 h6.size) kD) ey GV kd NK).mono (λe w' ⟨he,hr,hk⟩=>⟨he,yX.a hr hk (h2.up (by omega)) h3 h4 h5 h6⟩)
def KP (kf:Nat->Int) (kd:Int):Nat->Bool
 |0=>false
 |j+1=>KP kf kd j || (kf j == kd)
theorem we (B1 L1 N1 B2 L2 N2:Int) (i1:nN B1) (i2:nN L1) (i3:nN N1) (i4:nN B2) (i5:nN L2) (i6:nN N2) (sa:Option Addr) (sn sc kk kc:Nat) (kf:Nat->Int) (nk:Nat) (hnk:nk<=100) (Hm:∀kd,KP kf kd nk=true->Vd kd) (w:World) (bu:lS w w.heap.size sa sn) (_hsn:48*sn<=140737488355328) (pR:kk<w.heap.size) (rU:∀j,j<nk->w.cell? ⟨kk,j,none⟩=some (.int .i64 (kf j))):
  Calls prog 8 #[.agg #[.int .i64 B1, .int .i64 L1, .int .i64 N1], .agg #[.int .i64 B2, .int .i64 L2, .int .i64 N2], .slice sa sn sc, .slice (some ⟨kk,0,none⟩) nk kc] w λe w'=>e= .returned (.bool true)/\Below w.heap.size w w':=by
 obtain⟨hG1,_,_,_,_,_,_,_⟩:=Dx B1 L1 N1;obtain⟨hG2,_,_,_,_,_,_,_⟩:=Dx B2 L2 N2;have b1:=an w (.cells #[.int .i64 B1, .int .i64 L1, .int .i64 N1] 23);have b2:=an (w.alloc (.cells #[.int .i64 B1, .int .i64 L1, .int .i64 N1] 23)) (.cells #[.int .i64 B2, .int .i64 L2, .int .i64 N2] 23);have n1:=heap_alloc_new w (.cells #[.int .i64 B1, .int .i64 L1, .int .i64 N1] 23);have n2:=heap_alloc_new (w.alloc (.cells #[.int .i64 B1, .int .i64 L1, .int .i64 N1] 23)) (.cells #[.int .i64 B2, .int .i64 L2, .int .i64 N2] 23);have z1:(w.alloc (.cells #[.int .i64 B1, .int .i64 L1, .int .i64 N1] 23)).heap.size=w.heap.size+1:=by rw [World.size_alloc]
 rw [z1] at n2;have sR:=(b2.block _ (af n1)).trans n1;have EO:Below w.heap.size w _:=b1.trans (b2.mono b1.size);have g0:=aa sR (j:=0) rfl;have g1:=aa sR (j:=1) rfl;have g2:=aa sR (j:=2) rfl;have V1:=vQ B1 L1 N1 i1 i2 i3 ((w.alloc (.cells #[.int .i64 B1, .int .i64 L1, .int .i64 N1] 23)).alloc (.cells #[.int .i64 B2, .int .i64 L2, .int .i64 N2] 23));have KR1:Yh (∀w,Calls prog 9 #[Oa (fh B1 L1 N1)] w λe w'=>KL w w' (fh B1 L1 N1) e):=λw=>DR (fh B1 L1 N1) hG1 w;have KS2:Yh (∀w,Calls prog 10 #[.agg #[.int .i64 B2, .int .i64 L2, .int .i64 N2]] w λe w'=>e= .returned (Oa (fh B2 L2 N2))/\Below w.heap.size w w'):=λw=>vQ B2 L2 N2 i4 i5 i6 w;have KR2:Yh (∀w,Calls prog 9 #[Oa (fh B2 L2 N2)] w λe w'=>KL w w' (fh B2 L2 N2) e):=λw=>DR (fh B2 L2 N2) hG2 w;generalize fh B1 L1 N1=ga at*;generalize fh B2 L2 N2=gb at*;have UK:=yh (And.intro n2 EO);have HST:=yh (And.intro bu rU);have HKF:=yh Hm;clear hG1 hG2 i1 i2 i3 i4 i5 i6 b1 b2 n1 n2 sR EO z1 bu rU Hm;go_enter func8,ntmps8;go_wp2_with fail;refine V1.mono ?_;rintro e w1 ⟨rfl,aq⟩;have kr1:=KR1.out w1;have ew:=yh (UK.o.2.trans (aq.mono UK.o.2.size));have FU:=(aq.block _ (af UK.o.1)).trans UK.o.1;have HN3:=yh FU;clear V1 aq FU g0 g1 g2 UK;go_wp2_with fail;refine kr1.mono ?_;intro e w2 hR;obtain⟨ka,he,oH,aG⟩:=hR.rgl;subst he;have n3:=(aG.block _ (af HN3.o)).trans HN3.o;have g0:=aa n3 (j:=0) rfl;have g1:=aa n3 (j:=1) rfl;have g2:=aa n3 (j:=2) rfl;have V2:=KS2.out w2;have HA:=yh (And.intro oH aG);clear kr1 hR oH aG n3;go_wp2_with fail;refine V2.mono ?_;rintro e w3 ⟨rfl,bH⟩;have kr2:=KR2.out w3;have nB:=yh bH;clear V2 bH g0 g1 g2;go_wp2_with fail;refine kr2.mono ?_;intro e w4 hR;obtain⟨kb,he,np,eK⟩:=hR.rgl;subst he;have D4:=HA.o.1.later (nB.o.trans (eK.mono nB.o.size));have ca:=D4.cells;have cb:=np.cells;obtain⟨a1,k,zz,c2,kc1⟩:=D4.clear;have HP:Yh (pm w4 (λj=>w3.heap.size<=j/\j<w4.heap.size) kb 0/\(∀j,(w1.heap.size<=j/\j<w2.heap.size)->¬(w3.heap.size<=j/\j<w4.heap.size))/\(∀j,(w1.heap.size<=j/\j<w2.heap.size)->w.heap.size<=j)/\(∀j,(w3.heap.size<=j/\j<w4.heap.size)->w.heap.size<=j)/\Below w.heap.size w w4):=by
  have y1:=ew.o.size;have y2:=HA.o.2.size;have y3:=nB.o.size;exact⟨np,λj h1 h2=>by omega,λj h1=>by omega,λj h1=>by omega,((ew.o.trans (HA.o.2.mono y1)).trans (nB.o.mono (by omega))).trans (eK.mono (by omega))⟩
 clear kr2 hR np eK D4 HA ew nB HN3;go_wp2_with fail;refine kc1.mono ?_;rintro e w5 ⟨rfl,c4,km⟩;clear kc1 c2 ca cb;go_wp2_with fail;refine km.mono ?_;rintro e w6 ⟨rfl,Pj,jP⟩;have HI6:Yh (yX w w6 ka kb 0):=yX.a Pj jP HP.o.1 HP.o.2.1 HP.o.2.2.1 HP.o.2.2.2.1 HP.o.2.2.2.2;have kn:=bF zz w6;clear km Pj jP HP c4;go_wp2_with fail;refine kn.mono ?_;rintro e wx ⟨rfl,cU⟩;have bR:=cU.symm;subst bR;clear cU kn;obtain⟨E1,E2,r1,r2,r3,r4,r5,r6⟩:=HI6.o;obtain⟨a2,c3,kl⟩:=r1.looks;have HI:Yh (pm w6 E2 kb 0/\(∀j,E1 j->¬E2 j)/\(∀j,E1 j->w.heap.size<=j)/\(∀j,E2 j->w.heap.size<=j)/\Below w.heap.size w w6):=⟨r2,r3,r4,r5,r6⟩;clear r1 r2 r3 r4 r5 r6 HI6;go_wp2_with fail;refine kl.mono ?_;rintro e w7 ⟨rfl,hr7,iu⟩;have HI7:Yh (yX w w7 ka kb 0):=yX.a hr7 iu HI.o.1 HI.o.2.1 HI.o.2.2.1 HI.o.2.2.2.1 HI.o.2.2.2.2;clear kl hr7 iu HI c3;go_wp2;go_loopw [13] (λiv wr=>∃i:Nat,i<=sn/\iv= .int .i64 (i:Int)/\yX w wr ka kb (17*i)) (λiv _=>sn-(intOf iv).toNat);case atStart=>exact⟨0,Nat.zero_le _,rfl,HI7.o.up (Nat.zero_le _)⟩
 case round=>
  clear HI7;obtain⟨i,hi,rfl,hI⟩:=hrel;have HJ:=yh hI;clear hI;by_cases aS:i<sn
  .have cH:(i:Int)<(sn:Int):=(by omega);by_cases ir:i<3000
   .have adN:(i:Int)<3000:=(by omega);have lW:Below w.heap.size w wr:=(by obtain⟨E1,E2,_,_,_,_,_,r6⟩:=HJ.o;exact r6);cases sa with
    |none=>have:=HST.o.1.1 rfl;omega
    |some y=>
    obtain⟨b,o,rfl,kj,kd,N,who,two,da,dn,dc,dl,s0,s1,s2,s3,s4,hN,nD,ey,GV,kD⟩:=(HST.o.1.tM lW).2 y rfl i aS;have rU:∀j,j<nk->wr.cell? ⟨kk,j,none⟩=some (.int .i64 (kf j)):=λj hj=>(World.cell?_of_block (w:=w) (a:=⟨kk,j,none⟩) (lW.block kk pR)).trans (HST.o.2 j hj);have HK:=yh (And.intro rU (And.intro s0 (And.intro s1 (And.intro s2 (And.intro s3 s4)))));have HD:=yh (And.intro hN (And.intro nD (And.intro kD (And.intro ey GV))));have zo:(0:Int)<=(i:Int):=(by omega);clear rU s0 s1 s2 s3 s4 hN nD kD ey GV lW kj;go_wp2
    rename World=>wo
    go_loopw [14,15] (λnv jv wx=>∃j:Nat,j<=nk/\jv= .int .i64 (j:Int)/\nv= .bool (KP kf kd j)/\Below wo.heap.size wo wx) (λ_ jv _=>nk-(intOf jv).toNat);case atStart=>exact⟨0,Nat.zero_le _,rfl,rfl,Below.refl _ _⟩
    case round=>
     obtain⟨j,hj,rfl,rfl,bw⟩:=hrel;by_cases adO:j<nk
     .have Zw:(j:Int)<(nk:Int):=(by omega);have P5:(0:Int)<=(j:Int):=(by omega);have k0:=cell_later bw (HK.o.1 j adO);have t0:=cell_later bw HK.o.2.1;cases Pv:KP kf kd j
      .have HIn:Yh (KP kf kd (j+1)=(kf j == kd)):=(by show (KP kf kd j || (kf j == kd))=_;rw [Pv];rfl);clear Pv;generalize kf j=kv at*;go_wp2;go_quiet (fail);go_wp2;go_roundw;case rel=>exact⟨j+1,by omega,by go_num,by rw [HIn.o],below_drewN bw _⟩
       case measure=>simp [intOf];omega
      .have HIn:Yh (KP kf kd (j+1)=true):=(by show (KP kf kd j || (kf j == kd))=_;rw [Pv];rfl);clear Pv k0;go_wp2;go_quiet (fail);go_wp2;go_roundw;case rel=>exact⟨j+1,by omega,by go_num,by rw [HIn.o],below_drewN bw _⟩
       case measure=>simp [intOf];omega
     .obtain rfl:nk=j:=(by omega);have Zw:¬(nk:Int)<(nk:Int):=(by omega);have HJ2:=yh (HJ.o.later bw);cases Pv:KP kf kd nk
      .clear Pv;go_wp2;go_roundw;case rel=>exact⟨i+1,by omega,by go_num,HJ2.o.up (by omega)⟩
       case measure=>simp [intOf];omega
      .have NK:=HKF.o kd Pv;have t0:=cell_later bw HK.o.2.1;have t1:=cell_later bw HK.o.2.2.1;have t2:=cell_later bw HK.o.2.2.2.1;have t3:=cell_later bw HK.o.2.2.2.2.1;have t4:=cell_later bw HK.o.2.2.2.2.2;have nD:=HD.o.2.1.later bw;have HKd:=yh NK;clear Pv NK;cases two
       .have Zx:=HJ2.o.step (who:=who) (two:=false) (dc:=dc) HD.o.1 nD HD.o.2.2.1 HD.o.2.2.2.1 HD.o.2.2.2.2 kd HKd.o (by omega);clear nD;go_wp2_with fail;refine Zx.mono ?_;rintro e w8 ⟨rfl,Zy⟩;have HI8:=yh Zy;clear Zx Zy t0 t1 t2 t3 t4;go_wp2;go_roundw;case rel=>exact⟨i+1,by omega,by go_num,HI8.o.up (by omega)⟩
        case measure=>simp [intOf];omega
       .have Zx:=HJ2.o.swap.step (who:=who) (two:=true) (dc:=dc) HD.o.1 nD HD.o.2.2.1 HD.o.2.2.2.1 HD.o.2.2.2.2 kd HKd.o (by omega);clear nD;go_wp2_with fail;refine Zx.mono ?_;rintro e w8 ⟨rfl,Zy⟩;have HI8:=yh Zy.swap;clear Zx Zy t0 t1 t2 t3 t4;go_wp2;go_roundw;case rel=>exact⟨i+1,by omega,by go_num,HI8.o.up (by omega)⟩
        case measure=>simp [intOf];omega
   .have adN:¬(i:Int)<3000:=(by omega);go_wp2;go_ret;obtain⟨E1,E2,_,_,_,_,_,r6⟩:=HJ.o;exact⟨rfl,r6⟩
  .have cH:¬(i:Int)<(sn:Int):=(by omega);go_wp2;go_ret;obtain⟨E1,E2,_,_,_,_,_,r6⟩:=HJ.o;exact⟨rfl,r6⟩
theorem lS.mono {w:World} {B B':Nat} {sa:Option Addr} {n:Nat} (h:lS w B sa n) (hb:B<=B'):lS w B' sa n:=by
 refine⟨h.1,λy hy i hi=>?_⟩;obtain⟨b,o,rfl,Hf,kd,N,who,two,da,dn,dc,dl,c0,c1,c2,c3,c4,h5,h6,h7,h8,h9⟩:=h.2 y hy i hi;exact⟨b,o,rfl,by omega,kd,N,who,two,da,dn,dc,dl,c0,c1,c2,c3,c4,h5,h6,h7,h8,λx hx h0=>Nat.lt_of_lt_of_le (h9 x hx h0) hb⟩
section
open Go.ChangeShapes Go.WideShapes Go.ChangeAt Go.RowKit Go.Deep
theorem wg:prog.cellsOf 23=3:=by kernel_rfl
theorem oB {H:Type} {enc:TypeId×Value->H} {W:World} {base:Nat} {spare:Nat->Bool} {held:Bool} {fuel:Nat} {cs:List Value} {y:DataW H×List MemPlace} (h:DataW.trod enc prog W base spare held fuel 23 cs=some y):∃s l n,cs= [.int .i64 s, .int .i64 l, .int .i64 n]/\nN s/\nN l/\nN n:=by
 obtain⟨v0,v1,v2,y0,y1,y2,k',rfl,_,g0,g1,g2⟩:=RD underlying23 wg rfl rfl rfl gC gC gC h;obtain⟨n0,q0,_,w0⟩:=DataW.trod_int underlying3 g0;obtain⟨n1,q1,_,w1⟩:=DataW.trod_int underlying3 g1;obtain⟨n2,q2,_,w2⟩:=DataW.trod_int underlying3 g2;simp only [List.cons.injEq,and_true] at q0 q1 q2;subst q0 q1 q2;exact⟨n0,n1,n2,rfl,pO w0,pO w1,pO w2⟩
def AT (j:Nat):Int:=if j=0 then 1 else if j=1 then 2 else if j=2 then 3 else if j=3 then 4 else if j=4 then 5 else if j=5 then 7 else 8
theorem Gt:∀kd,KP AT kd 7=true->Vd kd:=λkd h=>by
 simp [KP,AT] at h;unfold Vd;omega
theorem xr (B1 L1 N1 B2 L2 N2:Int) (i1:nN B1) (i2:nN L1) (i3:nN N1) (i4:nN B2) (i5:nN L2) (i6:nN N2) (sa:Option Addr) (sn sc:Nat) (w:World) (bu:lS w w.heap.size sa sn) (nP:48*sn<=140737488355328):
  Calls prog 4 #[.agg #[.int .i64 B1, .int .i64 L1, .int .i64 N1], .agg #[.int .i64 B2, .int .i64 L2, .int .i64 N2], .slice sa sn sc] w λe w'=>e= .returned (.bool true)/\Below w.heap.size w w':=by
 have b1:=an w (.cells #[.int .i64 B1, .int .i64 L1, .int .i64 N1] 23);have b2:=an (w.alloc (.cells #[.int .i64 B1, .int .i64 L1, .int .i64 N1] 23)) (.cells #[.int .i64 B2, .int .i64 L2, .int .i64 N2] 23);have n1:=heap_alloc_new w (.cells #[.int .i64 B1, .int .i64 L1, .int .i64 N1] 23);have n2:=heap_alloc_new (w.alloc (.cells #[.int .i64 B1, .int .i64 L1, .int .i64 N1] 23)) (.cells #[.int .i64 B2, .int .i64 L2, .int .i64 N2] 23);have z1:(w.alloc (.cells #[.int .i64 B1, .int .i64 L1, .int .i64 N1] 23)).heap.size=w.heap.size+1:=by rw [World.size_alloc]
 have z2:((w.alloc (.cells #[.int .i64 B1, .int .i64 L1, .int .i64 N1] 23)).alloc (.cells #[.int .i64 B2, .int .i64 L2, .int .i64 N2] 23)).heap.size=w.heap.size+2:=by rw [World.size_alloc,z1]
 rw [z1] at n2;have sR:=(b2.block _ (af n1)).trans n1;have EO:Below w.heap.size w _:=b1.trans (b2.mono b1.size);have g0:=aa sR (j:=0) rfl;have g1:=aa sR (j:=1) rfl;have g2:=aa sR (j:=2) rfl;have g3:=aa n2 (j:=0) rfl;have g4:=aa n2 (j:=1) rfl;have g5:=aa n2 (j:=2) rfl;have b3:=an ((w.alloc (.cells #[.int .i64 B1, .int .i64 L1, .int .i64 N1] 23)).alloc (.cells #[.int .i64 B2, .int .i64 L2, .int .i64 N2] 23)) (.cells #[.int .i64 1, .int .i64 2, .int .i64 3, .int .i64 4, .int .i64 5, .int .i64 7, .int .i64 8] 3);have n3:=heap_alloc_new ((w.alloc (.cells #[.int .i64 B1, .int .i64 L1, .int .i64 N1] 23)).alloc (.cells #[.int .i64 B2, .int .i64 L2, .int .i64 N2] 23)) (.cells #[.int .i64 1, .int .i64 2, .int .i64 3, .int .i64 4, .int .i64 5, .int .i64 7, .int .i64 8] 3);rw [z2] at n3;have AU:Below w.heap.size w _:=EO.trans (b3.mono EO.size);have kp:=we B1 L1 N1 B2 L2 N2 i1 i2 i3 i4 i5 i6 sa sn sc (w.heap.size+2) 7 AT 7 (by decide) Gt (((w.alloc (.cells #[.int .i64 B1, .int .i64 L1, .int .i64 N1] 23)).alloc (.cells #[.int .i64 B2, .int .i64 L2, .int .i64 N2] 23)).alloc (.cells #[.int .i64 1, .int .i64 2, .int .i64 3, .int .i64 4, .int .i64 5, .int .i64 7, .int .i64 8] 3)) ((bu.tM AU).mono AU.size) nP (af n3) (λj hj=>aa n3 (j:=j) (by
  match j,hj with
  |0,_=>rfl
  |1,_=>rfl
  |2,_=>rfl
  |3,_=>rfl
  |4,_=>rfl
  |5,_=>rfl
  |6,_=>rfl))
 have HB:=yh AU;clear i1 i2 i3 i4 i5 i6 b1 b2 n1 n2 sR EO b3 n3 AU bu z1 z2;go_enter func4,ntmps4;go_wp2_with fail;refine kp.mono ?_;rintro e w4 ⟨rfl,eK⟩;have HE:=yh (HB.o.trans (eK.mono HB.o.size));clear kp eK g0 g1 g2 g3 g4 g5;go_wp2;go_ret;exact⟨rfl,HE.o⟩
end
section
open Go.ChangeShapes Go.WideShapes Go.ChangeAt Go.RowKit Go.Deep
def AV (j:Nat):Int:=if j=0 then 1 else if j=1 then 2 else if j=2 then 3 else if j=3 then 4 else if j=4 then 5 else if j=5 then 6 else if j=6 then 7 else if j=7 then 8 else if j=8 then 9 else if j=9 then 10 else if j=10 then 11 else if j=11 then 12 else if j=12 then 13 else if j=13 then 14 else 15
theorem Gu:∀kd,KP AV kd 15=true->Vd kd:=λkd h=>by
 simp [KP,AV] at h;unfold Vd;omega
theorem xt (B1 L1 N1 B2 L2 N2:Int) (i1:nN B1) (i2:nN L1) (i3:nN N1) (i4:nN B2) (i5:nN L2) (i6:nN N2) (sa:Option Addr) (sn sc:Nat) (w:World) (bu:lS w w.heap.size sa sn) (nP:48*sn<=140737488355328):
  Calls prog 7 #[.agg #[.int .i64 B1, .int .i64 L1, .int .i64 N1], .agg #[.int .i64 B2, .int .i64 L2, .int .i64 N2], .slice sa sn sc] w λe w'=>e= .returned (.bool true)/\Below w.heap.size w w':=by
 have b1:=an w (.cells #[.int .i64 B1, .int .i64 L1, .int .i64 N1] 23);have b2:=an (w.alloc (.cells #[.int .i64 B1, .int .i64 L1, .int .i64 N1] 23)) (.cells #[.int .i64 B2, .int .i64 L2, .int .i64 N2] 23);have n1:=heap_alloc_new w (.cells #[.int .i64 B1, .int .i64 L1, .int .i64 N1] 23);have n2:=heap_alloc_new (w.alloc (.cells #[.int .i64 B1, .int .i64 L1, .int .i64 N1] 23)) (.cells #[.int .i64 B2, .int .i64 L2, .int .i64 N2] 23);have z1:(w.alloc (.cells #[.int .i64 B1, .int .i64 L1, .int .i64 N1] 23)).heap.size=w.heap.size+1:=by rw [World.size_alloc]
 have z2:((w.alloc (.cells #[.int .i64 B1, .int .i64 L1, .int .i64 N1] 23)).alloc (.cells #[.int .i64 B2, .int .i64 L2, .int .i64 N2] 23)).heap.size=w.heap.size+2:=by rw [World.size_alloc,z1]
 rw [z1] at n2;have sR:=(b2.block _ (af n1)).trans n1;have EO:Below w.heap.size w _:=b1.trans (b2.mono b1.size);have g0:=aa sR (j:=0) rfl;have g1:=aa sR (j:=1) rfl;have g2:=aa sR (j:=2) rfl;have g3:=aa n2 (j:=0) rfl;have g4:=aa n2 (j:=1) rfl;have g5:=aa n2 (j:=2) rfl;have b3:=an ((w.alloc (.cells #[.int .i64 B1, .int .i64 L1, .int .i64 N1] 23)).alloc (.cells #[.int .i64 B2, .int .i64 L2, .int .i64 N2] 23)) (.cells #[.int .i64 1, .int .i64 2, .int .i64 3, .int .i64 4, .int .i64 5, .int .i64 6, .int .i64 7, .int .i64 8, .int .i64 9, .int .i64 10, .int .i64 11, .int .i64 12, .int .i64 13, .int .i64 14, .int .i64 15] 3);have n3:=heap_alloc_new ((w.alloc (.cells #[.int .i64 B1, .int .i64 L1, .int .i64 N1] 23)).alloc (.cells #[.int .i64 B2, .int .i64 L2, .int .i64 N2] 23)) (.cells #[.int .i64 1, .int .i64 2, .int .i64 3, .int .i64 4, .int .i64 5, .int .i64 6, .int .i64 7, .int .i64 8, .int .i64 9, .int .i64 10, .int .i64 11, .int .i64 12, .int .i64 13, .int .i64 14, .int .i64 15] 3);rw [z2] at n3;have AU:Below w.heap.size w _:=EO.trans (b3.mono EO.size);have kp:=we B1 L1 N1 B2 L2 N2 i1 i2 i3 i4 i5 i6 sa sn sc (w.heap.size+2) 15 AV 15 (by decide) Gu (((w.alloc (.cells #[.int .i64 B1, .int .i64 L1, .int .i64 N1] 23)).alloc (.cells #[.int .i64 B2, .int .i64 L2, .int .i64 N2] 23)).alloc (.cells #[.int .i64 1, .int .i64 2, .int .i64 3, .int .i64 4, .int .i64 5, .int .i64 6, .int .i64 7, .int .i64 8, .int .i64 9, .int .i64 10, .int .i64 11, .int .i64 12, .int .i64 13, .int .i64 14, .int .i64 15] 3)) ((bu.tM AU).mono AU.size) nP (af n3) (λj hj=>aa n3 (j:=j) (by
  match j,hj with
  |0,_=>rfl
  |1,_=>rfl
  |2,_=>rfl
  |3,_=>rfl
  |4,_=>rfl
  |5,_=>rfl
  |6,_=>rfl
  |7,_=>rfl
  |8,_=>rfl
  |9,_=>rfl
  |10,_=>rfl
  |11,_=>rfl
  |12,_=>rfl
  |13,_=>rfl
  |14,_=>rfl))
 have HB:=yh AU;clear i1 i2 i3 i4 i5 i6 b1 b2 n1 n2 sR EO b3 n3 AU bu z1 z2;go_enter func7,ntmps7;go_wp2_with fail;refine kp.mono ?_;rintro e w4 ⟨rfl,eK⟩;have HE:=yh (HB.o.trans (eK.mono HB.o.size));clear kp eK g0 g1 g2 g3 g4 g5;go_wp2;go_ret;exact⟨rfl,HE.o⟩
end
end Go.Proofs.YtkiehemoiapkkaaGreat
