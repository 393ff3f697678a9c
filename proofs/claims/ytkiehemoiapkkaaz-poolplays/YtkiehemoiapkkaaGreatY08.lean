import Derived.Test.YtkiehemoiapkkaaGreatY01
import Derived.Test.YtkiehemoiapkkaaGreatY03
import Derived.Test.YtkiehemoiapkkaaGreatY04
import Derived.Test.YtkiehemoiapkkaaGreatY06
import Derived.Test.YtkiehemoiapkkaaGreatY07
import Derived.Scope
import Derived.WalkMore
import Derived.Deep.RegionHeld3
set_option maxRecDepth 20000
set_option maxHeartbeats 8000000
set_option linter.all false
namespace Go.Proofs.YtkiehemoiapkkaaGreat
open Go.Proofs.Tryz
open Go.RowKit Go.Maps
variable {ms:CM} {S:DS} {rs:List (List Int)} {d:List Int} {ks:List Nat} {blocks c hd i k lo n p s:Nat} {F:Nat->Prop} {v:Value} {W w:World}
section
section
variable {w:World} {F:Nat->Prop} {p s c:Nat} {S:DS}
def Ka (h:B.aj w F p s S c) (k:Nat) (j:k<s) (bn:S.puts.length+1<=4000000000000) (f:S.fuse≠0):
  Calls prog 102 #[pQ p,iV (k:Int)] w λe w'=>∃g a,e= .returned (.tuple #[.slice (some (aD g 0)) 512 a,iV 0])/\w.heap.size<=g/\ao w' 5 g a (bs (S.now k))/\B.aj w' F p s S (c+1)/\ad F w w':=by
 obtain⟨r,h,l⟩:=h;refine(GF h k f j (by show S.puts.length<=_;omega)).mono ?_;rintro e w' ⟨g,a,rfl,i,aU,b,d⟩;exact⟨g,a,rfl,i,aU,⟨_,b,l.read⟩,d⟩
end
def pD (l:List Int) (s:Nat):Prop:=oT l/\u32 l 8=s
def co (l:List Int):LY:=⟨u32 l 12,3+u32 l 12,u32 l 8-(3+u32 l 12),u32 l 16,2+u32 l 16 / 4⟩
abbrev Sj:LY:=⟨0,0,0,0,0⟩
def NB (S:DS) (s:Nat) (y:LY) (x:Int):Prop:=
   (S.fuse=0/\y=Sj/\x=3)\/(S.fuse≠0/\pD (S.now 0) s/\y=co (S.now 0)/\x=0)\/(S.fuse≠0/\¬pD (S.now 0) s/\y=Sj/\x=6)
def oT.Nv {l:List Int} (h:oT l):vy (u32 l 8) (u32 l 12) (u32 l 16):=by
 simpa only [u32,iU (show 8+4<=508 by omega),iU (show 12+4<=508 by omega),iU (show 16+4<=508 by omega)] using h.2.Nv
def Uy (l:List Int) {s:Nat} (d:u32 l 8=s) (e:((u32 l 12:Nat):Int)+((u32 l 16:Nat):Int) / 4+6<=(s:Int)):
  Ending.returned (.tuple #[.agg #[iV ((u32 l 12:Nat):Int),iV (3+((u32 l 12:Nat):Int)),iV ((s:Int)-(3+((u32 l 12:Nat):Int))),iV ((u32 l 16:Nat):Int),iV (2+((u32 l 16:Nat):Int) / 4)],iV 0])=Ending.returned (.tuple #[Ph (co l),iV 0]):=by
 unfold co Ph;generalize u32 l 12=y at*;generalize u32 l 16=z at*;rw [d];have a:((3+y:Nat):Int)=3+(y:Int):=by omega
 have b:((s-(3+y):Nat):Int)=(s:Int)-(3+(y:Int)):=by omega
 have c:((2+z / 4:Nat):Int)=2+(z:Int) / 4:=by omega
 simp only [a,b,c]
def NC {g:Nat} {j a1 a2 l m:Value} {t:TypeId} (h:W.heap[g]? =some (.cells #[j,a1,a2,l,m] t (0,0))) (b c d e f:Value):
    (((((W.setCell ⟨g,0,none⟩ b).setCell ⟨g,1,none⟩ c).setCell ⟨g,2,none⟩ d).setCell ⟨g,3,none⟩ e).setCell ⟨g,4,none⟩ f).heap[g]? =some (.cells #[b,c,d,e,f] t (0,0))/\ad (λk=>k=g) W (((((W.setCell ⟨g,0,none⟩ b).setCell ⟨g,1,none⟩ c).setCell ⟨g,2,none⟩ d).setCell ⟨g,3,none⟩ e).setCell ⟨g,4,none⟩ f):=by
 refine⟨IE b c d e f h,?_⟩;have a:=λ(w:World) (i:Nat) (v:Value)=>ad.setCell (F:=λk=>k=g) w (p:=(aD g i)) rfl v;exact((((a _ 0 b).trans (a _ 1 c) (λ_ h=> .inl h)).trans (a _ 2 d) (λ_ h=> .inl h)).trans (a _ 3 e) (λ_ h=> .inl h)).trans (a _ 4 f) (λ_ h=> .inl h)
def rA {w:World} {F:Nat->Prop} {p s c:Nat} {S:DS} (h:B.aj w F p s S c) (ey:S.fL) (bn:S.puts.length+1<=4000000000000):
  Calls prog 52 #[pQ p] w λe w'=>∃y x,e= .returned (.tuple #[Ph y,iV x])/\NB S s y x/\B.aj w' F p s S (c+1)/\ad F w w':=by
 obtain⟨w0,dm⟩:=cF (w.alloc (.cells #[.int .i64 0, .int .i64 0, .int .i64 0, .int .i64 0, .int .i64 0] 87));have lJ:bW w w0:=by rw [dm];exact an _ _
 have cO:w0.heap[w.heap.size]? =some (.cells #[.int .i64 0, .int .i64 0, .int .i64 0, .int .i64 0, .int .i64 0] 87 (0,0)):=by rw [dm];exact heap_alloc_new _ _
 have uM:=h.later lJ;have aS:=h.lt;go_in;go_wp2_with fail;by_cases z:S.fuse=0
 .have t:=B.mK uM 0 z;have r:=(aQ uM (aQ lJ cO));subst dm;clear h uM lJ cO;refine ef t λw1 bd=>?_;subst bd;clear t;go_wp2;exact bodyPost_ret (v:= .tuple #[Ph Sj,iV 3]) (by simp [results,results52,go_sem]) rfl ⟨Sj,3,rfl, .inl ⟨z,rfl,rfl⟩,r.1.le (by omega),ad.ag F r.2.1⟩
 .have dw:=h.ok;have t:=Ka uM 0 (by have:=dw.lo;omega) bn z;have Y:=bT dw 0 (by have:=dw.lo;omega);have jS:=ey.now 0;have r:=(aQ lJ cO);have iX:w0.heap.size=w.heap.size+1:=by rw [dm,World.size_alloc]
  have X:=iX;rw [dm] at r X t;clear h uM lJ cO dm iX w0;refine t.mono ?_;rintro e w1 ⟨g,J,rfl,hg,aU,kE,bo⟩;clear t;have AE:=(bo.block w.heap.size (by rw [X];omega) (λn=>by have:=aS _ n;omega)).trans r.2;have Pd:=aU.le;have Ba:=aU.max;have nD:∀i,i<512->w1.cell? ⟨g,0+i,none⟩=some (.int .u8 ((S.now 0).getD i 0)):=λi hi=>by
   have:=aU.byte (i:=i) (by omega);rwa [aV] at this
  have MS:512<=J:=by rw [<-Y];simpa [bs] using Pd
  have QW:J<=9223372036854775807:=by unfold maxLen at Ba;omega
  have iB:=(ad.ag F r.1).trans bo (λ_ h=> .inl h);have bd:=bo.size;rw [X] at bd;by_cases q:oT (S.now 0)
  .have A:=C9 g 0 J (S.now 0) w1 Y MS QW jS nD q;have m:=q.Nv;have l:=(aQ kE (aQ iB (aQ AE q)));clear aU kE bo nD AE iB Pd Ba q;go_wp2_with fail;refine ef A λf aG=>?_;clear A;have eE:=aG.size;obtain⟨b,kB⟩:∃b,b=f.alloc (.cells #[.int .i64 ((u32 (S.now 0) 8:Nat):Int), .int .i64 ((u32 (S.now 0) 12:Nat):Int), .int .i64 ((u32 (S.now 0) 16:Nat):Int)] 31):=⟨_,rfl⟩;have sM:b.heap[f.heap.size]? =some (.cells #[.int .i64 ((u32 (S.now 0) 8:Nat):Int), .int .i64 ((u32 (S.now 0) 12:Nat):Int), .int .i64 ((u32 (S.now 0) 16:Nat):Int)] 31 (0,0)):=(by rw [kB];exact heap_alloc_new _ _);have bH:bW w1 b:=(by rw [kB];exact aG.alloc eE _);have rS:b.heap.size=f.heap.size+1:=(by rw [kB,World.size_alloc]);go_wp2_with fail;rw [<-kB];clear kB aG;have eO:=l.1.later bH;have ND:=(bH.block w.heap.size (by omega)).trans l.2.2.1;have NE:=l.2.1.trans (ad.ag (λ_=>False) bH) (λ_ h=>h.elim);have c0:=aL sM;have wW:=λk=>B.nX (eO.later (below_drewN (cW _ _) k));have a:=(aQ eO (aQ NE (aQ ND sM)));clear eO NE ND sM bH;by_cases wR:u32 (S.now 0) 8=s
   .have X5:(((u32 (S.now 0) 8:Nat):Int) == ((s:Nat):Int))=true:=(by rw [wR];simp);go_quiet (first|(go_at_call 46;refine Calls.quiet_of_same (wW _)));have d:∀k,bW b (b.drewN k):=λk=>below_drewN (cW _ _) k;have oZ:=(λk=>aQ (a.1.later (d k)) (aQ (a.2.1.trans (ad.ag (λ_=>False) (d k)) (λ_ h=>h.elim)) (aQ (((d k).block w.heap.size (by omega)).trans a.2.2.1) (((d k).block f.heap.size (by omega)).trans a.2.2.2))));clear a c0 wW d;rename_i nq _;have a:=(oZ nq);have C:(b.drewN nq).heap.size=b.heap.size:=rfl;clear oZ;generalize b.drewN nq=W at*;obtain⟨P,Q,R,T,U,K,L,M,N,O,s0,s1⟩:=Lj (aL a.2.2.1) (bY a.2.2.1) (cJ a.2.2.1) (jw a.2.2.1) (jI a.2.2.1) (ae a.2.2.1 0) (ae a.2.2.1 1) (ae a.2.2.1 2) (ae a.2.2.1 3) (ae a.2.2.1 4) (aL a.2.2.2) (bY a.2.2.2);have s2:=cJ a.2.2.2;have tP:=oN (s:Int) ((u32 (S.now 0) 12:Nat):Int) ((u32 (S.now 0) 16:Nat):Int) W (by have:=m;rw [wR] at this;exact this.1.1) (by have:=m;rw [wR] at this;exact this.1.2) (by have:=m;rw [wR] at this;exact this.2.1.1) (by have:=m;rw [wR] at this;exact this.2.1.2) (by have:=m;rw [wR] at this;exact this.2.2.1) (by have:=m;rw [wR] at this;exact this.2.2.2.1) (by have:=m;rw [wR] at this;exact this.2.2.2.2);go_wp2_with fail;refine ef tP λW3 o=>?_;clear tP P Q R T U K L M N O s0 s1 s2;have vI:=(o.block w.heap.size (by omega)).trans a.2.2.1;have Z:=(aQ (a.1.later o) (a.2.1.trans (ad.ag (λ_=>False) o) (λ_ h=>h.elim)));obtain⟨P,Q,R,T,U,K,L,M,N,O⟩:=GE (aL vI) (bY vI) (cJ vI) (jw vI) (jI vI) (ae vI 0) (ae vI 1) (ae vI 2) (ae vI 3) (ae vI 4);have K5:Ending.returned (.tuple #[.agg #[(iV ((u32 (S.now 0) 12:Nat):Int)),(iV (3+((u32 (S.now 0) 12:Nat):Int))),(iV ((s:Int)-(3+((u32 (S.now 0) 12:Nat):Int)))),(iV ((u32 (S.now 0) 16:Nat):Int)),(iV (2+((u32 (S.now 0) 16:Nat):Int) / 4))],iV 0])=Ending.returned (.tuple #[Ph (co (S.now 0)),iV 0]):=by
     have h3:=m.2.2.2.1;rw [wR] at h3;exact Uy (S.now 0) wR h3
    go_wp2;obtain⟨Db,Hm⟩:=NC vI (iV ((u32 (S.now 0) 12:Nat):Int)) (iV (3+((u32 (S.now 0) 12:Nat):Int))) (iV ((s:Int)-(3+((u32 (S.now 0) 12:Nat):Int)))) (iV ((u32 (S.now 0) 16:Nat):Int)) (iV (2+((u32 (S.now 0) 16:Nat):Int) / 4));generalize ((((W3.setCell ⟨w.heap.size,0,none⟩ (.int .i64 ((u32 (S.now 0) 12:Nat):Int))).setCell ⟨w.heap.size,1,none⟩ (.int .i64 (3+((u32 (S.now 0) 12:Nat):Int)))).setCell ⟨w.heap.size,2,none⟩ (.int .i64 ((s:Int)-(3+((u32 (S.now 0) 12:Nat):Int))))).setCell ⟨w.heap.size,3,none⟩ (.int .i64 ((u32 (S.now 0) 16:Nat):Int))).setCell ⟨w.heap.size,4,none⟩ (.int .i64 (2+((u32 (S.now 0) 16:Nat):Int) / 4))=WW at*;obtain⟨D,E,G,H,I⟩:=gB (aa Db (j:=0) (u:=(iV ((u32 (S.now 0) 12:Nat):Int))) rfl) (aa Db (j:=1) (u:=(iV (3+((u32 (S.now 0) 12:Nat):Int)))) rfl) (aa Db (j:=2) (u:=(iV ((s:Int)-(3+((u32 (S.now 0) 12:Nat):Int))))) rfl) (aa Db (j:=3) (u:=(iV ((u32 (S.now 0) 16:Nat):Int))) rfl) (aa Db (j:=4) (u:=(iV (2+((u32 (S.now 0) 16:Nat):Int) / 4))) rfl);exact bodyPost_ret (v:= .tuple #[.agg #[(iV ((u32 (S.now 0) 12:Nat):Int)),(iV (3+((u32 (S.now 0) 12:Nat):Int))),(iV ((s:Int)-(3+((u32 (S.now 0) 12:Nat):Int)))),(iV ((u32 (S.now 0) 16:Nat):Int)),(iV (2+((u32 (S.now 0) 16:Nat):Int) / 4))],iV 0]) (by simp [results,results52,go_sem,D,E,G,H,I]) rfl ⟨co (S.now 0),0,K5, .inr (.inl ⟨z,⟨l.2.2.2,wR⟩,rfl,rfl⟩),Z.1.ak Hm (λk n e=>by subst e;have:=aS _ n;omega),Z.2.trans Hm (λk e=> .inr (by omega))⟩
   .have X5:(((u32 (S.now 0) 8:Nat):Int) == ((s:Nat):Int))=false:=(by rw [oE];omega);go_quiet (first|(go_at_call 46;refine Calls.quiet_of_same (wW _)));have d:∀k,bW b (b.drewN k):=λk=>below_drewN (cW _ _) k;have oZ:=(λk=>aQ (a.1.later (d k)) (aQ (a.2.1.trans (ad.ag (λ_=>False) (d k)) (λ_ h=>h.elim)) (aQ (((d k).block w.heap.size (by omega)).trans a.2.2.1) (((d k).block f.heap.size (by omega)).trans a.2.2.2))));clear a c0 wW d;rename_i nq _;have a:=(oZ nq);have C:(b.drewN nq).heap.size=b.heap.size:=rfl;clear oZ;generalize b.drewN nq=W at*;obtain⟨P,Q,R,T,U,K,L,M,N,O⟩:=GE (aL a.2.2.1) (bY a.2.2.1) (cJ a.2.2.1) (jw a.2.2.1) (jI a.2.2.1) (ae a.2.2.1 0) (ae a.2.2.1 1) (ae a.2.2.1 2) (ae a.2.2.1 3) (ae a.2.2.1 4);have ahV:(((u32 (S.now 0) 8:Nat):Int) != ((s:Nat):Int))=true:=(by simp [bne,X5]);go_wp2;obtain⟨Db,Hm⟩:=NC a.2.2.1 (iV 0) (iV 0) (iV 0) (iV 0) (iV 0);generalize ((((W.setCell ⟨w.heap.size,0,none⟩ (.int .i64 0)).setCell ⟨w.heap.size,1,none⟩ (.int .i64 0)).setCell ⟨w.heap.size,2,none⟩ (.int .i64 0)).setCell ⟨w.heap.size,3,none⟩ (.int .i64 0)).setCell ⟨w.heap.size,4,none⟩ (.int .i64 0)=WW at*;obtain⟨D,E,G,H,I⟩:=gB (aa Db (j:=0) (u:=(iV 0)) rfl) (aa Db (j:=1) (u:=(iV 0)) rfl) (aa Db (j:=2) (u:=(iV 0)) rfl) (aa Db (j:=3) (u:=(iV 0)) rfl) (aa Db (j:=4) (u:=(iV 0)) rfl);exact bodyPost_ret (v:= .tuple #[.agg #[(iV 0),iV 0,iV 0,iV 0,(iV 0)],iV 6]) (by simp [results,results52,go_sem,D,E,G,H,I]) rfl ⟨Sj,6,rfl, .inr (.inr ⟨z,λh=>wR h.2,rfl,rfl⟩),a.1.ak Hm (λk n e=>by subst e;have:=aS _ n;omega),a.2.1.trans Hm (λk e=> .inr (by omega))⟩
  .have A:=Da g 0 J (S.now 0) w1 Y MS QW jS nD q;have l:=(aQ kE (aQ iB (aQ AE q)));clear aU kE bo nD AE iB Pd Ba q;go_wp2_with fail;refine ef A λf aG=>?_;clear A;have eE:=aG.size;obtain⟨b,kB⟩:=cF (f.alloc (.cells #[.int .i64 0, .int .i64 0, .int .i64 0] 31));have sM:b.heap[f.heap.size]? =some (.cells #[.int .i64 0, .int .i64 0, .int .i64 0] 31 (0,0)):=(by rw [kB];exact heap_alloc_new _ _);have bH:bW w1 b:=(by rw [kB];exact aG.alloc eE _);have rS:b.heap.size=f.heap.size+1:=(by rw [kB,World.size_alloc]);go_wp2_with fail;rw [<-kB];clear kB aG;have eO:=l.1.later bH;have ND:=(bH.block w.heap.size (by omega)).trans l.2.2.1;have NE:=l.2.1.trans (ad.ag (λ_=>False) bH) (λ_ h=>h.elim);have a:=(aQ eO (aQ NE (aQ ND sM)));clear eO NE ND sM bH;go_quiet (fail);have d:∀k,bW b (b.drewN k):=λk=>below_drewN (cW _ _) k;have oZ:=(λk=>aQ (a.1.later (d k)) (aQ (a.2.1.trans (ad.ag (λ_=>False) (d k)) (λ_ h=>h.elim)) (aQ (((d k).block w.heap.size (by omega)).trans a.2.2.1) (((d k).block f.heap.size (by omega)).trans a.2.2.2))));clear a d;rename_i nq _;have a:=(oZ nq);have C:(b.drewN nq).heap.size=b.heap.size:=rfl;clear oZ;generalize b.drewN nq=W at*;obtain⟨P,Q,R,T,U,K,L,M,N,O⟩:=GE (aL a.2.2.1) (bY a.2.2.1) (cJ a.2.2.1) (jw a.2.2.1) (jI a.2.2.1) (ae a.2.2.1 0) (ae a.2.2.1 1) (ae a.2.2.1 2) (ae a.2.2.1 3) (ae a.2.2.1 4);go_wp2;obtain⟨Db,Hm⟩:=NC a.2.2.1 (iV 0) (iV 0) (iV 0) (iV 0) (iV 0);generalize ((((W.setCell ⟨w.heap.size,0,none⟩ (.int .i64 0)).setCell ⟨w.heap.size,1,none⟩ (.int .i64 0)).setCell ⟨w.heap.size,2,none⟩ (.int .i64 0)).setCell ⟨w.heap.size,3,none⟩ (.int .i64 0)).setCell ⟨w.heap.size,4,none⟩ (.int .i64 0)=WW at*;obtain⟨D,E,G,H,I⟩:=gB (aa Db (j:=0) (u:=(iV 0)) rfl) (aa Db (j:=1) (u:=(iV 0)) rfl) (aa Db (j:=2) (u:=(iV 0)) rfl) (aa Db (j:=3) (u:=(iV 0)) rfl) (aa Db (j:=4) (u:=(iV 0)) rfl);exact bodyPost_ret (v:= .tuple #[.agg #[(iV 0),iV 0,iV 0,iV 0,(iV 0)],iV 6]) (by simp [results,results52,go_sem,D,E,G,H,I]) rfl ⟨Sj,6,rfl, .inr (.inr ⟨z,λh=>l.2.2.2 h.1,rfl,rfl⟩),a.1.ak Hm (λk n e=>by subst e;have:=aS _ n;omega),a.2.1.trans Hm (λk e=> .inr (by omega))⟩
end
def fC (blocks:Nat):Nat->Nat->List Int->Option (List Nat×List Int)
 |0,_,l=>some ([],l)
 |n+1,lo,l=>if l.length<4 then none else if lo<=le (l.take 4)/\le (l.take 4)<blocks then (fC blocks n (le (l.take 4)+1) (l.drop 4)).map (λx=>(le (l.take 4) :: x.1,x.2)) else none
def dL:List Nat->List Int->Option (CM×List Int)
 | [],l=>some ([],l)
 |k :: ks,l=>if l.length<512 then none else (dL ks (l.drop 512)).map (λx=>((k,l.take 512) :: x.1,x.2))
def jD:Option (CM×List Int)->Option CM
 |some (cs, [])=>some cs
 |_=>none
def gJ (blocks:Nat) (d:List Int):Option CM:=
 if d.length<2 then none else if 1<=le (d.take 2)/\le (d.take 2)<=16 then
  match fC blocks (le (d.take 2)) 0 (d.drop 2) with
  |none=>none
  |some (ks,r)=>jD (dL ks r)
 else none
def qr {blocks:Nat}:∀{n lo:Nat} {l r:List Int} {ks:List Nat},fC blocks n lo l=some (ks,r)->ks.length=n/\∀k∈ks,k<blocks
 |0,lo,l,r,ks,h=>by
  simp only [fC,Option.some.injEq,Prod.mk.injEq] at h;obtain⟨rfl,_⟩:=h;simp
 |n+1,lo,l,r,ks,h=>by
  unfold fC at h;split at h
  .cases h
  .split at h
   .rename_i e;cases b:fC blocks n (le (l.take 4)+1) (l.drop 4) with
    |none=>rw [b] at h;cases h
    |some x=>
     rw [b] at h;simp only [Option.map_some,Option.some.injEq,Prod.mk.injEq] at h;obtain⟨rfl,rfl⟩:=h;obtain⟨c,d⟩:=qr (ks:=x.1) (r:=x.2) b;refine⟨by simp [c],λk a=>?_⟩;rcases List.mem_cons.1 a with rfl|a
     .exact e.2
     .exact d k a
   .cases h
def X6 {S:Nat} (h:i<S) (a:i<k):S-k<S-i:=by omega
def ou (blocks n lo:Nat) (l:List Int):fC blocks (n+1) lo l=if l.length<4 then none else if lo<=le (l.take 4)/\le (l.take 4)<blocks then (fC blocks n (le (l.take 4)+1) (l.drop 4)).map (λx=>(le (l.take 4) :: x.1,x.2)) else none:=rfl
def jo (k:Nat) (ks:List Nat) (l:List Int):dL (k :: ks) l=if l.length<512 then none else (dL ks (l.drop 512)).map (λx=>((k,l.take 512) :: x.1,x.2)):=rfl
def Kb (ms cs:CM) (k:Nat) (c:List Int):CM.dM ms (cs ++ [(k,c)])=CM.put (CM.dM ms cs) k c:=by
 unfold CM.dM;rw [List.foldl_append];rfl
def qt:List Nat->List Int->CM
 | [],_=> []
 |k :: ks,r=>(k,r.take 512) :: qt ks (r.drop 512)
def Dc:∀(ks:List Nat) (r:List Int),(qt ks r).length=ks.length
 | [],_=>rfl
 |k :: ks,r=>by simp [qt,Dc ks]
def qu:∀(ks:List Nat) (r:List Int),512*ks.length<=r.length->dL ks r=some (qt ks r,r.drop (512*ks.length))
 | [],r,_=>rfl
 |k :: ks,r,h=>by
  rw [List.length_cons] at h;rw [jo,aB (by omega),qu ks (r.drop 512) (by rw [List.length_drop];omega),List.drop_drop,List.length_cons,show 512+512*ks.length=512*(ks.length+1) by omega];rfl
def rB:∀(ks:List Nat) (r:List Int),r.length<512*ks.length->dL ks r=none
 | [],r,h=>by simp at h
 |k :: ks,r,h=>by
  rw [List.length_cons] at h;rw [jo];split
  .rfl
  .rw [rB ks (r.drop 512) (by rw [List.length_drop];omega)];rfl
def FB {r:List Int} (h:r.length=512*ks.length):jD (dL ks r)=some (qt ks r):=by
 rw [qu ks r (by omega),List.drop_eq_nil_of_le (by omega)];rfl
def Kc {r:List Int} (h:r.length≠512*ks.length):jD (dL ks r)=none:=by
 by_cases a:r.length<512*ks.length
 .rw [rB ks r a];rfl
 .rw [qu ks r (by omega)];have:0<(r.drop (512*ks.length)).length:=by rw [List.length_drop];omega
  cases hd:r.drop (512*ks.length) with
  |nil=>rw [hd] at this;simp at this
  |cons x xs=>rfl
def tF {blocks:Nat}:∀{n lo:Nat} {l r:List Int} {ks:List Nat},fC blocks n lo l=some (ks,r)->4*n<=l.length/\r=l.drop (4*n)
 |0,lo,l,r,ks,h=>by
  simp only [fC,Option.some.injEq,Prod.mk.injEq] at h;exact⟨by omega,by rw [<-h.2];rfl⟩
 |n+1,lo,l,r,ks,h=>by
  rw [ou] at h;split at h
  .cases h
  .split at h
   .cases a:fC blocks n (le (l.take 4)+1) (l.drop 4) with
    |none=>rw [a] at h;cases h
    |some x=>
     rw [a] at h;simp only [Option.map_some,Option.some.injEq,Prod.mk.injEq] at h;obtain⟨rfl,rfl⟩:=h;obtain⟨b,c⟩:=tF (ks:=x.1) (r:=x.2) a;rw [List.length_drop] at b;refine⟨by omega,?_⟩;rw [c,List.drop_drop];congr 1;omega
   .cases h
def kP (blocks:Nat) (d:List Int) (c:Nat) (ks:List Nat) (lo i:Nat):Option CM:=
 match fC blocks (c-i) lo (d.drop (2+4*i)) with
 |none=>none
 |some (js,r)=>jD (dL (ks ++ js) r)
def Dd (h:d.length<2\/¬(1<=le (d.take 2)/\le (d.take 2)<=16)\/d.length≠2+516*le (d.take 2)):gJ blocks d=none:=by
 unfold gJ;by_cases a:d.length<2
 .rw [aN a]
 .rw [aB a];by_cases b:1<=le (d.take 2)/\le (d.take 2)<=16
  .rw [aN b];cases c:fC blocks (le (d.take 2)) 0 (d.drop 2) with
   |none=>rfl
   |some x=>
    obtain⟨ks,r⟩:=x;obtain⟨e,f⟩:=tF c;have g:=(qr c).1;rw [List.length_drop] at e;show jD (dL ks r)=none;refine Kc ?_;rw [f,g,List.length_drop,List.length_drop];omega
  .rw [aB b]
def FD (h0:¬d.length<2) (a:1<=le (d.take 2)/\le (d.take 2)<=16):gJ blocks d=kP blocks d (le (d.take 2)) [] 0 0:=by
 unfold gJ kP;rw [aB h0,aN a];rfl
def FE (a:ks.length=c) (hd:d.length=2+516*c):kP blocks d c ks lo c=some (qt ks (d.drop (2+4*c))):=by
 unfold kP;rw [Nat.sub_self];show jD (dL (ks ++ []) (d.drop (2+4*c)))=_;rw [List.append_nil];exact FB (by rw [List.length_drop];omega)
def De (hi:i<c) (hd:d.length=2+516*c):
  kP blocks d c ks lo i=if lo<=le ((d.drop (2+4*i)).take 4)/\le ((d.drop (2+4*i)).take 4)<blocks then kP blocks d c (ks ++ [le ((d.drop (2+4*i)).take 4)]) (le ((d.drop (2+4*i)).take 4)+1) (i+1) else none:=by
 unfold kP;rw [show c-i=(c-(i+1))+1 by omega,ou,aB (by rw [List.length_drop];omega),List.drop_drop,show 2+4*i+4=2+4*(i+1) by omega];generalize le ((d.drop (2+4*i)).take 4)=K;by_cases h:lo<=K/\K<blocks
 .rw [aN h,aN h];cases fC blocks (c-(i+1)) (K+1) (d.drop (2+4*(i+1))) with
  |none=>rfl
  |some x=>
   show jD (dL (ks ++ K :: x.1) x.2)=jD (dL ((ks ++ [K]) ++ x.1) x.2);rw [GC];rfl
 .rw [aB h,aB h]
def tG:∀{ks:List Nat} {l r:List Int} {cs:CM},dL ks l=some (cs,r)->∀x∈cs,x.1∈ks
 | [],l,r,cs,h=>by
  simp only [dL,Option.some.injEq,Prod.mk.injEq] at h;obtain⟨rfl,_⟩:=h;simp
 |k :: ks,l,r,cs,h=>by
  rw [jo] at h;split at h
  .cases h
  .cases a:dL ks (l.drop 512) with
   |none=>rw [a] at h;cases h
   |some x=>
    rw [a] at h;simp only [Option.map_some,Option.some.injEq,Prod.mk.injEq] at h;obtain⟨rfl,rfl⟩:=h;intro z b;rcases List.mem_cons.1 b with rfl|b
    .simp
    .exact List.mem_cons_of_mem _ (tG (cs:=x.1) (r:=x.2) a z b)
def qv {cs:CM} (h:gJ blocks d=some cs):∀x∈cs,x.1<blocks:=by
 unfold gJ at h;split at h
 .cases h
 .split at h
  .split at h
   .cases h
   .rename_i ks r c;cases b:dL ks r with
    |none=>rw [b] at h;cases h
    |some x=>
     obtain⟨g,f⟩:=x;rw [b] at h;cases f with
     |nil=>
      simp only [jD,Option.some.injEq] at h;subst h;intro z e;exact(qr c).2 _ (tG b z e)
     |cons a t=>cases h
  .cases h
section
open Go.RowKit Go.Shelf
attribute [local go_sem] Oper.semAt_some
def FF (a:Option Addr) (n c:Nat) (w:World):
  Calls prog 172 #[.slice a n c,iV 4] w λe w'=>e= .returned (.func (.func 191) #[] #[pQ w.heap.size, .pointer (some ⟨w.heap.size+1,0,none⟩)])/\w'=(w.alloc (.cells #[.slice a n c] 44)).alloc (.cells #[.int .i64 4] 3):=by
 go_in;go_wp2;go_ret;exact⟨rfl,rfl⟩
def lR (n k:Nat):Nat:=min 4 (n-4*k)
def Id (b o n q:Nat) (x:Fin q):Array Value:= #[.slice (some ⟨b,o+4*x.1,none⟩) (lR n x.1) (lR n x.1)]
set_option maxRecDepth 100000 in
def Kd (m:Nat) (U:1<=m) (l f d b o n c q:Nat) (Me:1<=n) (X:n<=64) (S:n<=c) (D:q=(n+3) / 4) (J y:List (Fin q)->World->Prop)
    (A:∀a (x:Fin q) W,J a W->a.length<q->YieldAt Fence.wide (m-1) prog l (Id b o n q x) W λe W'=>
     (e= .returned (.bool true)/\J (a ++ [x]) W'/\su f d W W')\/(e= .returned (.bool false)/\y (a ++ [x]) W'))
    (W:World) (EU:W.heap[f]? =some (.cells #[.slice (some ⟨b,o,none⟩) n c] 44 (0,0))) (MA:W.heap[d]? =some (.cells #[.int .i64 4] 3 (0,0))) (p:AbidesFrom W.heap.size J) (h0:J [] W):
  CallsIn Fence.wide m prog 191 #[.func (.yield l) #[] #[],pQ f,pQ d] W λe W'=>(∃v,e= .returned v)/\
     ((∃ys,qY ys q/\J ys W')\/(∃a,(∃k,k<q/\qY a (k+1))/\y a W')):=by
 have P:=yh D;have M:n<=4*q/\4*q<n+4:=by omega
 clear D;refine callsIn_of_wp func191 rfl trivial ?_ rfl;simp only [ntmps191,List.size_toArray,List.length_cons,List.length_nil,Nat.reduceAdd,Nat.reduceSub,Array.replicate_succ,Array.replicate_zero,List.push_toArray,List.append_toArray,List.nil_append,List.cons_append]
 gi_wp2
 gi_loopw [4] (λi wr=>∃(k:Nat) (a:List (Fin q)),k<=q/\i=iV ((4*k:Nat):Int)/\qY a k/\J a wr/\su f d W wr)
    (λi _=>4*q-(intOf i).toNat)
 case atStart=>exact⟨0, [],iq _,rfl,qY.nil,h0,su.refl _ _ _⟩
 case round=>
  obtain⟨k,a,T,rfl,lM,O8,dR⟩:=hrel;have C:a.length=k:=lM.length;have gV:=aL (dR.1.trans EU);have gM:=aL (dR.2.trans MA);by_cases aS:k<q
  .have WY:J a wr.drew:=p a wr wr.drew none O8 ⟨rfl,rfl,rfl,di _,λ_ _ _=>rfl⟩ (λr e=>by cases e);obtain⟨R,E,g,body,s,Tv⟩:=A a ⟨k,aS⟩ wr.drew WY (by omega);have D3:prog.follows .mixedOrders=true:=by kernel_rfl
   dsimp only [Id] at s
   have DW:lR n k=min 4 (n-4*k):=rfl;obtain⟨I,j⟩:=cF (4*k);rw [<-j] at s DW⊢;have K:I<n:=(by omega);obtain⟨z,u⟩:=cF (lR n k);rw [<-u] at s DW;have S9:min (4:Int) ((n-I:Nat):Int)=(z:Int):=(by omega);have Vt:((I:Int)+(z:Int)).toNat-I=z:=(by omega);have cH:(I:Int)<(n:Int):=(by omega);have H:(I:Int)<(c:Int):=(by omega);have M8:(n:Int)<=(c:Int):=(by omega);have N:(I:Int)+(z:Int)<=(n:Int):=(by omega);have eR:(1:Int)<=(z:Int):=(by omega);obtain⟨w,Q⟩:=eA j u;clear j u DW;have TB:=qa Tv;have F:=yh dR;have O:=yh p;have MB:=yh lM;clear Tv A O8 WY dR p lM
   gi_wp2
   gi_region_with_o (fail)
   all_goals
    gi_wp2_with fail
    refine TB.mono ?_;rintro e G ⟨r,rfl,cI,eB⟩;obtain⟨RV,Jk⟩:=eA cI eB;clear cI eB;cases r
    .gi_wp2
     refine bodyPost_ret (results_none rfl _ _ _) rfl ?_;exact⟨⟨_,rfl⟩, .inr ⟨_,⟨k,aS,MB.o.snoc aS⟩,Jk.o (by simp)⟩⟩
    .have aR:su f d W G:=F.o.t (su.t (B:=wr.drew) ⟨rfl,rfl⟩ (RV.o rfl).2);have nL:=aL (aR.2.trans MA);have nV:=yh aR;clear aR
     gi_wp2
     go_roundw;case rel=>exact⟨k+1,_,by omega,by rw [w.o];go_num,MB.o.snoc aS,(RV.o (by simp)).1,nV.o⟩
     case measure=>have:=w.o;simp [intOf];omega
  .have TC:=yh (show k=q by omega);have L:¬((4*k:Nat):Int)<(n:Int):=by omega
   gi_wp2
   go_end0
   exact⟨⟨_,rfl⟩, .inl ⟨a,(by rw [TC.out] at lM;exact lM),O8⟩⟩
def AF (m:Nat) (r:1<=m) (d a b o n c q:Nat) (Me:1<=n) (s:n<=64) (p:n<=c) (t:q=(n+3) / 4) (w:World)
    (EU:w.heap[d]? =some (.cells #[.slice (some ⟨b,o,none⟩) n c] 44 (0,0))) (MA:w.heap[a]? =some (.cells #[.int .i64 4] 3 (0,0))):
  SeqStopsK Fence.wide m prog 191 #[pQ d,pQ a] (Id b o n q) (su d a) (λu=>qY u q) (λe=>∃k,k<q/\qY e (k+1)) q w:=
 λl J g W f i _ j h0=>Kd m r l d a b o n c q Me s p t J g j W ((f.block _ (af EU)).trans EU) ((f.block _ (af MA)).trans MA) i h0
end
section
open Go.RowKit Go.Shelf
attribute [local go_sem] Oper.semAt_some
def et (d:List Int) (i:Nat):Nat:=le ((d.drop (2+4*i)).take 4)
structure VK (w W:World) (n0:Nat) (ns:List Nat):Prop where
 bx:∃v,W.heap[w.heap.size]? =some (.cells #[v] 26 (0,0))/\W.ownsRow n0 3 1 v ns.length (A2 ns)
 kp:Below w.heap.size w W
 sz:n0<=W.heap.size
def VK.grown {W':World} {c:Nat} {ns:List Nat} {row:Option Nat} (h:VK w W c ns) (u:w.heap.size<c) (b:W.grownBy W' row) (p:∀r,row=some r->c<=r/\∃o:Obj,W.heap[r]? =some o/\o.isCells=false):VK w W' c ns:=by
 obtain⟨⟨v,d,l⟩,m,q⟩:=h;have eM:∀k cur t i,W.heap[k]? =some (.cells cur t i)->some k≠row:=λk cur t i s e=>by
  obtain⟨_,o,n,a⟩:=p k e.symm;rw [s] at n;cases n;cases a
 refine⟨⟨v,(b.block _ (af d) (eM _ _ _ _ d)).trans d,lq l (λg f=>?_)⟩,m.grown b m.size (λj e=>by have:=(p j e).1;omega),xv q b.size⟩;obtain⟨cur,a⟩:=ay l f;exact b.block g (af a) (eM _ _ _ _ a)
def rC {P:Program} {b:Array Oper} {l:Nat} {f:Nat} {a:Act} {K:Act->World->Prop} {S:World->Prop} {Q:Exit->Act->World->Prop} (d:P.follows .mixedOrders=true) (hd:qZ b=true) (h:wpAnyH P .any b (Exit.then K (λ_ _ _=>False)) S b.size (Array.replicate b.size false) a w.drew) (c:∀a w,K a w->Q .normal a w):
    (Code.region f b true).wpIn (Fence.wide.inRound l) n P Q a w:=
 wpIn_mono (wpIn_region_any d (qb hd (λ⟨_,_,h⟩=>h) _ _ _ _ (wpAny_of_held _ _ _ _ h))) (λe a w h=>by cases e <;> first|exact c _ _ h|exact h.elim)
def QX {B:Nat} {b:List Value} (aU:W.ownsRow B 3 1 v k b) (x:Int) (o:k<=1000000) (n:B<=W.heap.size):
  ∃g a w',(Builtin.append_ #[26,26] 26 #[v, .slice (some ⟨W.heap.size,0,none⟩) 1 1]).run prog (W.alloc (.cells #[.int .i64 x] 3))= .ok (.slice (some ⟨g,0,none⟩) (k+1) a) w'/\w'.ownsRow B 3 1 (.slice (some ⟨g,0,none⟩) (k+1) a) (k+1) (b ++ [.int .i64 x])/\(W.alloc (.cells #[.int .i64 x] 3)).grownBy w' v.ownBlock/\(v.ownBlock=some g\/g=W.heap.size+1):=by
 obtain⟨m,hi,iX,eR,eE⟩:=info_parts zj;obtain⟨g,a,w',c,d,f,i,_⟩:=run_append_lies (P:=prog) (W.alloc (.cells #[.int .i64 x] 3)) 26 26 B 3 m (.int .i64 0) 1 8 underlying26 hi iX eR eE rfl (by decide) v k b (bP aU (λg l=>by
   obtain⟨cur,j⟩:=ay aU l;exact Below.heap_alloc _ _ _ (af j))) ⟨W.heap.size,0,none⟩ 1 1 [.int .i64 x] rfl (World.news_of_block (cs:= #[.int .i64 x]) (t:=3) (fr:=(0,0)) (heap_alloc_new W _)) (by simp [Value.oneCell']) (by omega) (by unfold maxLen;omega) (by omega) (by simp;omega) _ rfl
 exact⟨g,a,w',c,d,f,i.imp (λe=>e) (λe=>e.trans (by simp))⟩
def mW {e:Func} {p q r:Tmp} (h:e.results= #[.cell p 26, .tmp q, .tmp r]) (b:Array Value) (w:World) (g:Nat) (a:Option Addr) (n c:Nat) (u v:Value)
    (i:b.getD p undef= .pointer (some ⟨g,0,none⟩)) (j:b.getD q undef=u) (k:b.getD r undef=v) (l:w.cell? ⟨g,0,none⟩=some (.slice a n c)):(results e b).run prog w= .ok (.tuple #[.slice a n c,u,v]) w:=by
 have SV:b[p]?.getD undef= .pointer (some ⟨g,0,none⟩):=by simpa using i
 have Ww:b[q]?.getD undef=u:=by simpa using j
 have d:b[r]?.getD undef=v:=by simpa using k
 have f:(loadVar 26 ⟨g,0,none⟩).run prog w= .ok (.slice a n c) w:=by simp [go_sem,l]
 simp [results,h,SV,Ww,d,asAddr,f]
def Df (a:Option Addr) (n c:Nat) (w:World) (j:n<2):
  Calls prog 141 #[.slice a n c] w λe w'=>e= .returned (.tuple #[.slice none 0 0, .slice none 0 0, .bool false])/\Below w.heap.size w w':=by
 have i:(n:Int)<2:=by omega
 have f:=an w (.cells #[.slice none 0 0] 26);have bw:=heap_alloc_new w (.cells #[.slice none 0 0] 26);have d:=aL bw;have g:=ae bw 0;have b:=(aQ d f);go_in;go_wp2;refine bodyPost_ret (mW rfl _ _ w.heap.size none 0 0 (.slice none 0 0) (.bool false) rfl rfl rfl b.1) rfl ⟨rfl,b.2⟩
def Ke (b o n c:Nat) (d:List Int) (w:World) (f:Src w (some ⟨b,o,none⟩) n d) (hd:Bytes d) (l:2<=n) (M8:n<=c) (XC:n<=1000000) (BJ:¬(1<=le (d.take 2)/\le (d.take 2)<=16)\/n≠2+516*le (d.take 2)):
  Calls prog 141 #[.slice (some ⟨b,o,none⟩) n c] w λe w'=>e= .returned (.tuple #[.slice none 0 0, .slice none 0 0, .bool false])/\Below w.heap.size w w':=by
 have r:¬(n:Int)<2:=by omega
 have tf:=f.1;have a:=an w (.cells #[.slice none 0 0] 26);have bw:=heap_alloc_new w (.cells #[.slice none 0 0] 26);have k:=aL bw;have p:=ae bw 0;have i:=(aQ k a);have dQ:=(f.sub 0 2 (by omega)).later a;rw [List.drop_zero,Nat.add_zero] at dQ;have j:=qc b o 2 c (d.take 2) _ dQ (hd.take 2) (by omega);obtain⟨bf,qh⟩:=cF (le (d.take 2));have ahY:bf<65536:=by
  rw [qh];have:=ld (hd.take 2);have e:(d.take 2).length=2:=by simp;omega
  rw [e] at this;exact this
 rw [<-qh] at j BJ;have DY:(2:Int)<=(c:Int):=by omega
 have g:((bf:Int)<1)\/(¬(bf:Int)<1/\(16:Int)<(bf:Int))\/(¬(bf:Int)<1/\¬(16:Int)<(bf:Int)/\((n:Int) != 2+(bf:Int)*4+(bf:Int)*512)=true):=by
  rw [rO];omega
 clear a bw dQ qh f hd tf BJ l;rcases g with q|⟨q,m⟩|⟨q,m,s⟩;all_goals
  go_in;go_wp2_with fail;refine ef j λw1 bd=>?_;subst bd;go_wp2;refine bodyPost_ret (mW rfl _ _ w.heap.size none 0 0 (.slice none 0 0) (.bool false) rfl rfl rfl i.1) rfl ⟨rfl,i.2⟩
set_option maxRecDepth 100000 in
def NF (b o n c bf:Nat) (d:List Int) (w:World) (hs:Src w (some ⟨b,o,none⟩) n d) (hd:Bytes d) (M8:n<=c) (hc6:c<=9223372036854775807) (qh:le (d.take 2)=bf) (h1:1<=bf) (rV:bf<=16) (hn:n=2+516*bf):
  Calls prog 141 #[.slice (some ⟨b,o,none⟩) n c] w λe w'=>∃g a cc,e= .returned (.tuple #[.slice (some ⟨g,0,none⟩) bf a, .slice (some ⟨b,o+(2+4*bf),none⟩) (512*bf) cc, .bool true])/\512*bf<=cc/\w.heap.size<=g/\ao w' 3 g a (A2 ((List.range bf).map (et d)))/\Below w.heap.size w w':=by
 have g1:¬(n:Int)<2:=by omega
 have tf:=hs.1;have Z:=an w (.cells #[.slice none 0 0] 26);have bw:=heap_alloc_new w (.cells #[.slice none 0 0] 26);obtain⟨H,s⟩:=cF (w.alloc (.cells #[.slice none 0 0] 26));have eR:H.heap.size=w.heap.size+1:=by rw [s,World.size_alloc]
 rw [<-s] at Z bw;have dQ:=(hs.sub 0 2 (by omega)).later Z;rw [List.drop_zero,Nat.add_zero] at dQ;have k1:=qc b o 2 c (d.take 2) _ dQ (hd.take 2) (by omega);rw [qh] at k1;have g2:(2:Int)<=(c:Int):=by omega
 have q1:¬(bf:Int)<1:=by omega
 have q2:¬(16:Int)<(bf:Int):=by omega
 have q3:((n:Int) != 2+(bf:Int)*4+(bf:Int)*512)=false:=by
  rw [bne_eq_false_iff_eq];omega
 obtain⟨HH,HW,z,HS⟩:=PF (aQ Z bw) s (aQ hn qh) (aQ hs hd);clear Z bw dQ qh hs hd tf hn s;refine(callsIn_wide (n:=6)).1 ?_;refine callsIn_of_wp_marks func141 rfl trivial ?_ rfl;simp only [ntmps141,List.size_toArray,List.length_cons,List.length_nil,Nat.reduceAdd,Nat.reduceSub,Array.replicate_succ,Array.replicate_zero,List.push_toArray,List.append_toArray,List.nil_append,List.cons_append];refine(wpIn_wide (n:=6)).2 ?_;go_wp2_with fail;rw [<-HW.o];refine k1.mono ?_;rintro e w1 ⟨rfl,bd⟩;have acO:=bd.symm;subst acO;clear bd k1;obtain⟨fr,R⟩:∃fr:Nat,fr=2+4*bf:=⟨_,rfl⟩;have N:(2:Int)+(bf:Int)*4=(fr:Int):=by omega
 have e2:(2:Int)<=(fr:Int):=by omega
 have e3:(fr:Int)<=(c:Int):=by have:=z.o.1;omega
 have e4:(2:Int)<(c:Int):=by have:=z.o.1;omega
 rw [N] at q3;have QY:=yh R;clear R;go_wp2_with fail;obtain⟨m,C⟩:=cF (fr-2);obtain⟨E,Qq⟩:=cF (c-2);rw [<-C,<-Qq];have HX:=yh (aQ C Qq);have O:m=4*bf:=by have:=QY.o;omega
 have TM:m<=E:=by have:=QY.o;have:=z.o.1;omega
 have r:=yh O;clear C Qq O;refine(FF (some ⟨b,o+2,none⟩) m E H).mono ?_;rintro e p ⟨rfl,mD⟩;go_wp2_with fail;refine(wpIn_wide (n:=6)).1 ?_;have eK:Below H.heap.size H p:=by rw [mD];exact fk _ _ _
 have wt:p.heap.size=w.heap.size+3:=by rw [mD];simp;omega
 have MU:p.heap[w.heap.size+1]? =some (.cells #[.slice (some ⟨b,o+2,none⟩) m E] 44 (0,0)):=by
  rw [mD,<-eR];exact(Below.heap_alloc _ _ _ (by simp)).trans (heap_alloc_new _ _)
 have TT:p.heap[w.heap.size+1+1]? =some (.cells #[.int .i64 4] 3 (0,0)):=by
  rw [mD,<-eR];have:=heap_alloc_new (H.alloc (.cells #[.slice (some ⟨b,o+2,none⟩) m E] 44)) (.cells #[.int .i64 4] 3);rwa [World.size_alloc] at this
 rw [<-mD];clear mD;have mu:=HH.o.1.trans (eK.mono HH.o.1.size);have TU:=mu.size;have hI0:VK w p p.heap.size ([]:List Nat):=⟨⟨.slice none 0 0,(eK.block _ (by omega)).trans HH.o.2,World.ownsRow_nil _ _ _ _⟩,mu,di _⟩;refine wpIn_rangeFunc_ownH rfl (by omega) (gf:=191) (lb:= #[.pointer (some ⟨w.heap.size+1,0,none⟩), .pointer (some ⟨w.heap.size+1+1,0,none⟩)]) rfl trivial (enters_of func191 (by kernel_rfl) rfl)
    (AF (6-1) (by omega) (w.heap.size+1) (w.heap.size+1+1) b (o+2) m E bf (by have:=r.o;omega) (by have:=r.o;omega) TM (by have:=r.o;omega) p MU TT) su.t (su.b (by omega) (by omega)) (cW _ _) (λ_=>rfl)
    (λl W=>VK w W p.heap.size (l.map (λx:Fin bf=>et d x.1)))
    (λ_ _ _=>False)
  ?hI ?hIx hI0
    (λy a' _=>a'={tmps:= #[.slice (some ⟨b,o,none⟩) n c,undef, .pointer (some ⟨w.heap.size,0,none⟩), .slice none 0 0, .bool false, .int .i64 (bf:Int), .int .i64 (fr:Int), .slice (some ⟨b,o+2+4*y.1,none⟩) (lR m y.1) (lR m y.1), .slice (some ⟨b,o,none⟩) n c, .int .i64 (n:Int), .bool false, .slice (some ⟨b,o,none⟩) n c, .slice (some ⟨b,o,none⟩) 2 c, .int .i64 (bf:Int), .int .i64 (bf:Int), .int .i64 ((bf:Int)*4), .int .i64 (fr:Int), .int .i64 (bf:Int), .bool (decide ((bf:Int)<1)), .bool (decide ((bf:Int)<1)), .int .i64 (bf:Int), .bool (decide ((16:Int)<(bf:Int))), .bool (decide ((bf:Int)<1) || decide ((16:Int)<(bf:Int))), .bool (decide ((bf:Int)<1) || decide ((16:Int)<(bf:Int))), .slice (some ⟨b,o,none⟩) n c, .int .i64 (n:Int), .int .i64 (fr:Int), .int .i64 (bf:Int), .int .i64 ((bf:Int)*512), .int .i64 ((fr:Int)+(bf:Int)*512), .bool false, .bool (decide ((bf:Int)<1) || decide ((16:Int)<(bf:Int))), .slice (some ⟨b,o,none⟩) n c, .int .i64 (fr:Int), .slice (some ⟨b,o+2,none⟩) m E, .func (.func 191) #[] #[.pointer (some ⟨w.heap.size+1,0,none⟩), .pointer (some ⟨w.heap.size+1+1,0,none⟩)], .slice (some ⟨b,o+2+4*y.1,none⟩) (lR m y.1) (lR m y.1),undef,undef,undef,undef,undef,undef,undef,undef,undef],defers:= []}) ?hAx ?assign ?body ?done ?stop
 case hI=>exact λ_ _ _ _ h hg hr=>h.grown (by omega) hg hr
 case hIx=>exact λ_ _ _ _ _ h _ _=>h.elim
 case hAx=>exact λ_ _ _ _ _ _ h _ _=>h
 case assign=>
  intro l' l y W K hI f;simp only [Id]
  gi_wp2
  exact f _ _ (KeepsFrom.refl _ _) (su.refl _ _ _) hI rfl
 case body=>
  rintro l' l y a' W QA ⟨rr,D4⟩ hI rfl aS;obtain⟨⟨v,bw,bB⟩,dR,fy⟩:=hI;have hy:=y.2;have D3:prog.follows .mixedOrders=true:=by kernel_rfl
  have DW:lR m y.1=4:=by unfold lR;have:=r.o;omega
  have Xs:Src W (some ⟨b,o+2+4*y.1,none⟩) 4 ((d.drop (2+4*y.1)).take 4):=by
   have:=(HS.o.1.sub (2+4*y.1) 4 (by have:=z.o.1;omega)).later (dR.mono (di _));rwa [<-Nat.add_assoc] at this
  have P:Bytes ((d.drop (2+4*y.1)).take 4):=(HS.o.2.drop _).take 4;have bo:=qc b (o+2+4*y.1) 4 4 _ W.drew (Xs.later (ah (cW _ _))) P (by omega);have Cq:(l ++ [y]).map (λx:Fin bf=>et d x.1)=l.map (λx:Fin bf=>et d x.1) ++ [et d y.1]:=by simp
  have hx:le ((d.drop (2+4*y.1)).take 4)=et d y.1:=rfl;rw [hx] at bo;have T:(l.map (λx:Fin bf=>et d x.1)).length<=1000000:=by rw [ju];omega
  generalize hX:et d y.1=X at bo Cq;generalize hNs:l.map (λx:Fin bf=>et d x.1)=ns at Cq T bB;obtain⟨g,a,q,ct,Qn,Cb,QH⟩:=QX (W:=W.drew) bB (X:Int) T fy;have kj:=an W.drew (.cells #[.int .i64 (X:Int)] 3);have Y:(W.drew.alloc (.cells #[.int .i64 (X:Int)] 3)).heap.size=W.heap.size+1:=by simp
  have o8:∀k,v.ownBlock=some k->p.heap.size<=k:=λk e=>(bB.lt k e).1;have fE:∀k,v.ownBlock=some k->∃cur,W.heap[k]? =some (.cells cur 3 (0,0)):=λk e=>ay bB e;have aA:∀k,k<W.heap.size->¬v.ownBlock=some k->q.heap[k]? =W.heap[k]? :=λk h1 J=>(Cb.block k (by rw [Y];omega) (λe=>J e.symm)).trans (kj.block k h1);have ud:W.heap.size+1<=q.heap.size:=by have:=Cb.size;rw [Y] at this;exact this
  have Sk:=af bw;have O1:¬v.ownBlock=some w.heap.size:=λe=>by have:=o8 _ e;omega
  have k9:=(aA _ Sk O1).trans bw;have s0:W.drew.cell? ⟨w.heap.size,0,none⟩=some v:=aa (w:=W) bw (j:=0) rfl;have s1:(W.drew.alloc (.cells #[.int .i64 (X:Int)] 3)).cell? ⟨w.heap.size,0,none⟩=some v:=aL ((kj.block _ Sk).trans bw);have s5:q.cell? ⟨w.heap.size,0,none⟩=some v:=aL k9;have f5:q.frozen? ⟨w.heap.size,0,none⟩=false:=ae k9 0;have iB:=aF (F:=λk=>k=w.heap.size) q rfl 0 (.slice (some ⟨g,0,none⟩) (ns.length+1) a);have gc:Below w.heap.size w q:=⟨(Cb.os.trans kj.os).trans dR.os,(Cb.tape.trans kj.tape).trans dR.tape,(Cb.output.trans kj.output).trans dR.output,by have:=dR.size;omega,λk hk=>(aA k (by have:=dR.size;omega) (λe=>by have:=o8 k e;omega)).trans (dR.block k hk)⟩;have HE:Yh (KeepsFrom p.heap.size W (q.setCell ⟨w.heap.size,0,none⟩ (.slice (some ⟨g,0,none⟩) (ns.length+1) a))/\su (w.heap.size+1) (w.heap.size+1+1) W (q.setCell ⟨w.heap.size,0,none⟩ (.slice (some ⟨g,0,none⟩) (ns.length+1) a))/\VK w (q.setCell ⟨w.heap.size,0,none⟩ (.slice (some ⟨g,0,none⟩) (ns.length+1) a)) p.heap.size (ns ++ [X])):=by
   have cB:KeepsFrom p.heap.size W q:=⟨by omega,λk ob h1 J h3=>(aA k (af J) (λe=>by
    obtain⟨cur,M⟩:=fE k e;rw [M] at J;cases J;cases h3)).trans J⟩
   refine⟨cB.trans ((KeepsOthers.setCell _ _ _).from _),⟨(iB.block _ (by omega) (by omega)).trans (aA _ (by omega) (λe=>by have:=o8 _ e;omega)),(iB.block _ (by omega) (by omega)).trans (aA _ (by omega) (λe=>by have:=o8 _ e;omega))⟩,⟨⟨.slice (some ⟨g,0,none⟩) (ns.length+1) a,(heap_setCell_same _ _ 0 _ _ _ k9).trans (by simp),?_⟩,gc.trans (iB.below (λk e=>by omega) gc.size),by have:=iB.size;omega⟩⟩;have N:(ns ++ [X]).length=ns.length+1:=(by simp);have e2:A2 (ns ++ [X])=A2 ns ++ [.int .i64 (X:Int)]:=(by simp [A2]);rw [N,e2];refine lq Qn (λk e=>iB.block k ?_ ?_)
   .obtain⟨cur,M⟩:=ay Qn e;exact af M
   .intro e2;have h8:g=k:=(by simpa [Value.ownBlock] using e);rcases QH with L|L
    .have:=o8 _ L;omega
    .have Wd:g=W.heap.size+1:=L;omega
  rw [DW];have HMp:=yh Cq;clear Cq Xs P bB bw dR gc iB aA fE o8 kj Qn Cb QH k9
  gi_wp2_with fail
  have ss:=yh ct;have s2:(W.alloc (.cells #[.int .i64 (X:Int)] 3)).drew.cell? ⟨w.heap.size,0,none⟩=some v:=s1;clear ct;refine rC (S:=λ_=>True) (K:=λ_ W'=>W'=q.setCell ⟨w.heap.size,0,none⟩ (.slice (some ⟨g,0,none⟩) (ns.length+1) a)) D3 (by kernel_rfl) ?_ (λa1 w1 N=>by rw [N];exact⟨HE.o.1,HE.o.2.1,by have L:=HE.o.2.2;rw [<-HMp.o] at L;exact L⟩);refine wpAnyH_take (i:=1) (v:= .slice (some ⟨b,o+2+4*y.1,none⟩) 4 4) rfl (by kernel_rfl) (by kernel_rfl) (by kernel_rfl) (λ_ _ _ h=>h) (Or.inl ⟨by rfl,?_⟩) trivial ?_
  .intro H hS;go_simp
  try simp only [Act.put,iA]
  refine wpAnyH_ready (rs:= [0,2]) (by kernel_rfl) (by simp) (AllReadyH.cons rfl (λK f=>?_) (AllReadyH.cons rfl (λK f=>?_) AllReadyH.nil))
  .skip
   go_simp;refine f.out _ _ trivial (λ_=>?_);clear f K;try simp only [Act.put,iA,jG,jZ]
   refine wpAnyH_ready (rs:= [2]) (by kernel_rfl) (by simp) (AllReadyH.cons rfl (λK f=>?_) AllReadyH.nil);go_simp;refine bo.mono ?_;rintro e W2 ⟨rfl,ed⟩;have Uz:=ed.symm;subst Uz;refine f.out _ _ trivial (λ_=>?_);clear f K;try simp only [Act.put,iA,jG,jZ]
   refine wpAnyH_ready (rs:= [3]) (by kernel_rfl) (by simp) (AllReadyH.cons rfl (λK f=>?_) AllReadyH.nil);go_simp;refine f.out _ _ trivial (λ_=>?_);clear f K;try simp only [Act.put,iA,jG,jZ]
   refine wpAnyH_ready (rs:= [4]) (by kernel_rfl) (by simp) (AllReadyH.cons rfl (λK f=>?_) AllReadyH.nil);rw [aN (by rfl)];refine cf _ _ 26 rfl _ _ _ rfl rfl ss.o ?_;refine f.out _ _ trivial (λ_=>?_);clear f K;try simp only [Act.put,iA]
   refine wpAnyH_ready (rs:= [5]) (by kernel_rfl) (by simp) (AllReadyH.cons rfl (λK f=>?_) AllReadyH.nil);go_simp;refine f.out _ _ trivial (λ_=>?_);clear f K;try simp only [Act.put,iA,jG,jZ]
   exact wpAnyH_done (by kernel_rfl) rfl _
  .skip
   go_simp;refine bo.mono ?_;rintro e W2 ⟨rfl,ed⟩;have Uz:=ed.symm;subst Uz;refine f.out _ _ trivial (λ_=>?_);clear f K;try simp only [Act.put,iA,jG,jZ]
   refine wpAnyH_ready (rs:= [0,3]) (by kernel_rfl) (by simp) (AllReadyH.cons rfl (λK f=>?_) (AllReadyH.cons rfl (λK f=>?_) AllReadyH.nil))
   .skip
    go_simp;refine f.out _ _ trivial (λ_=>?_);clear f K;try simp only [Act.put,iA,jG,jZ]
    refine wpAnyH_ready (rs:= [3]) (by kernel_rfl) (by simp) (AllReadyH.cons rfl (λK f=>?_) AllReadyH.nil);go_simp;refine f.out _ _ trivial (λ_=>?_);clear f K;try simp only [Act.put,iA,jG,jZ]
    refine wpAnyH_ready (rs:= [4]) (by kernel_rfl) (by simp) (AllReadyH.cons rfl (λK f=>?_) AllReadyH.nil);rw [aN (by rfl)];refine cf _ _ 26 rfl _ _ _ rfl rfl ss.o ?_;refine f.out _ _ trivial (λ_=>?_);clear f K;try simp only [Act.put,iA]
    refine wpAnyH_ready (rs:= [5]) (by kernel_rfl) (by simp) (AllReadyH.cons rfl (λK f=>?_) AllReadyH.nil);go_simp;refine f.out _ _ trivial (λ_=>?_);clear f K;try simp only [Act.put,iA,jG,jZ]
    exact wpAnyH_done (by kernel_rfl) rfl _
   .skip
    go_simp;refine f.out _ _ trivial (λ_=>?_);clear f K;try simp only [Act.put,iA,jG,jZ]
    refine wpAnyH_ready (rs:= [0]) (by kernel_rfl) (by simp) (AllReadyH.cons rfl (λK f=>?_) AllReadyH.nil);go_simp;refine f.out _ _ trivial (λ_=>?_);clear f K;try simp only [Act.put,iA,jG,jZ]
    refine wpAnyH_ready (rs:= [4]) (by kernel_rfl) (by simp) (AllReadyH.cons rfl (λK f=>?_) AllReadyH.nil);rw [aN (by rfl)];refine cf _ _ 26 rfl _ _ _ rfl rfl ss.o ?_;refine f.out _ _ trivial (λ_=>?_);clear f K;try simp only [Act.put,iA]
    refine wpAnyH_ready (rs:= [5]) (by kernel_rfl) (by simp) (AllReadyH.cons rfl (λK f=>?_) AllReadyH.nil);go_simp;refine f.out _ _ trivial (λ_=>?_);clear f K;try simp only [Act.put,iA,jG,jZ]
    exact wpAnyH_done (by kernel_rfl) rfl _
 case done=>
  intro D xs W hD wR hI oc;have Cq:xs.map Fin.val=List.range bf:=wR;have RQ:xs.map (λx:Fin bf=>et d x.1)=(List.range bf).map (et d):=by
   rw [<-Cq,List.map_map];rfl
  rw [RQ] at hI;obtain⟨⟨v,bw,bB⟩,dR,fy⟩:=hI;have hl:((List.range bf).map (et d)).length=bf:=by simp
  rw [hl] at bB;obtain⟨g,a,rfl,hg,aU,_⟩:=ao.eQ bB (λe=>by
   rw [e] at bB;obtain⟨_,⟨_,h0⟩|⟨g,a,cur,h0,_⟩⟩:=bB
   .omega
   .cases h0)
  have c0:W.cell? ⟨w.heap.size,0,none⟩=some (.slice (some ⟨g,0,none⟩) bf a):=aL bw;have f0:W.frozen? ⟨w.heap.size,0,none⟩=false:=ae bw 0;have e6:(fr:Int)<=(n:Int):=by have:=z.o.1;have:=QY.o;omega
  have e7:¬c=fr:=by have:=z.o.1;have:=QY.o;omega
  have e8:(0:Int)<=(fr:Int):=by omega
  have c1:(W.setCell ⟨w.heap.size,0,none⟩ (.slice (some ⟨g,0,none⟩) bf a)).drew.cell? ⟨w.heap.size,0,none⟩=some (.slice (some ⟨g,0,none⟩) bf a):=aa (w:=W.setCell ⟨w.heap.size,0,none⟩ (.slice (some ⟨g,0,none⟩) bf a)) (heap_setCell_same _ _ 0 _ _ _ bw) (j:=0) (by simp);have A:=yh (aQ aU (aQ dR (aQ hg bw)));clear bB Cq RQ wR aU dR bw;go_wp2_with fail;go_region_held3 (λw'=>w'.cell? ⟨w.heap.size,0,none⟩=some (.slice (some ⟨g,0,none⟩) bf a)/\w'.frozen? ⟨w.heap.size,0,none⟩=false) (first|exact⟨c1,by go_simp⟩|go_keep) (fail);have iB:=aF (F:=λk=>k=w.heap.size) W rfl 0 (.slice (some ⟨g,0,none⟩) bf a);have IY:(W.setCell ⟨w.heap.size,0,none⟩ (.slice (some ⟨g,0,none⟩) bf a)).heap[w.heap.size]? =some (.cells #[.slice (some ⟨g,0,none⟩) bf a] 26 (0,0)):=(heap_setCell_same _ _ 0 _ _ _ A.o.2.2.2).trans (by simp);have hDl:D<W.heap.size:=af oc;have QZ:(W.setCell ⟨w.heap.size,0,none⟩ (.slice (some ⟨g,0,none⟩) bf a)).drew.heap[D]? =some (.deferred (some [])):=(iB.block D hDl (by omega)).trans oc;have tt:Below w.heap.size w (W.setCell ⟨w.heap.size,0,none⟩ (.slice (some ⟨g,0,none⟩) bf a)).drew:=A.o.2.1.trans (ah (iB.below (λk e=>by omega) A.o.2.1.size));have Sl:ao (W.setCell ⟨w.heap.size,0,none⟩ (.slice (some ⟨g,0,none⟩) bf a)).drew 3 g a (A2 ((List.range bf).map (et d))):=A.o.1.agree (iB.block g A.o.1.lt (by have:=A.o.2.2.1;omega));obtain⟨I,TY⟩:=cF ((W.setCell ⟨w.heap.size,0,none⟩ (.slice (some ⟨g,0,none⟩) bf a)).drew);have X7:I.heap[w.heap.size]? =some (.cells #[.slice (some ⟨g,0,none⟩) bf a] 26 (0,0)):=by rw [TY];exact IY
  rw [<-TY] at QZ tt Sl⊢;have hgD:g≠D:=λe=>by
   obtain⟨cur,M,_⟩:=Sl;rw [e,QZ] at M;cases M
  have u:∀k,k≠D->(I.putObj D (.deferred none)).heap[k]? =I.heap[k]? :=λk hk=>World.putObj_heap_other hk;have VG:(I.putObj D (.deferred none)).cell? ⟨w.heap.size,0,none⟩=some (.slice (some ⟨g,0,none⟩) bf a):=aL ((u _ (by omega)).trans X7);have U:n-fr=512*bf:=by have:=z.o.1;have:=QY.o;omega
  have Q:512*bf<=c-fr:=by have:=z.o.1;have:=QY.o;omega
  have MR:ad (λk=>k=D) I (I.putObj D (.deferred none)):=⟨rfl,rfl,rfl,by simp [World.putObj],λk _ hn=>u k hn⟩;have G:=yh (aQ QZ (aQ VG (aQ U (aQ Q (aQ (Sl.agree (u g hgD)) (tt.trans (MR.below (λk e=>by omega) tt.size)))))));clear QZ VG U Q Sl tt IY X7 iB u TY c0 f0 c1 MR;go_wp2;refine⟨by simp, .inl ⟨_,_,rfl,run_takeDeferred G.o.1,?_⟩⟩;refine⟨_,mW rfl _ _ w.heap.size (some ⟨g,0,none⟩) bf a (.slice (some ⟨b,o+fr,none⟩) (n-fr) (c-fr)) (.bool true) rfl rfl rfl G.o.2.1,?_⟩;refine⟨g,a,c-fr,?_,G.o.2.2.2.1,by have:=A.o.2.2.1;omega,G.o.2.2.2.2.1,G.o.2.2.2.2.2⟩;rw [G.o.2.2.1,QY.o]
 case stop=>
  rintro D c l W hD _ h oc;exact h.elim
end
def NG (hd:Bytes d) (i:Nat):et d i<4294967296:=by
 have:=ld ((hd.drop (2+4*i)).take 4);have e:((d.drop (2+4*i)).take 4).length<=4:=by rw [Iz];omega
 have a:2 ^ (8*((d.drop (2+4*i)).take 4).length)<=2 ^ 32:=Nat.pow_le_pow_right (by omega) (by omega);have b:(2:Nat) ^ 32=4294967296:=rfl;unfold et;omega
def Kf (d:List Int) (i:Nat):(List.range (i+1)).map (et d)=(List.range i).map (et d) ++ [et d i]:=by
 rw [List.range_succ,List.map_append];rfl
def Ie:∀(ks:List Nat) (r:List Int) (i:Nat) (hi:i<ks.length),(qt ks r).take (i+1)=(qt ks r).take i ++ [(ks[i],(r.drop (512*i)).take 512)]
 | [],_,i,hi=>by simp at hi
 |k :: ks,r,0,_=>by simp [qt]
 |k :: ks,r,i+1,hi=>by
  rw [qt,List.take_succ_cons,List.take_succ_cons,Ie ks (r.drop 512) i (by simpa using hi),List.drop_drop,show 512+512*i=512*(i+1) by omega];rfl
def Dg {m:Nat} (b:m<w.heap.size) (a:Option Addr) (n c:Nat) (blocks:Nat)
    (f:Calls prog 141 #[.slice a n c] w λe w'=>e= .returned (.tuple #[.slice none 0 0, .slice none 0 0, .bool false])/\bW w w'):
  Calls prog 106 #[.map (some m), .slice a n c,iV (blocks:Int)] w λe w'=>e= .returned (.bool false)/\bW w w':=by
 go_in;go_wp2_with fail;refine ef f λw1 d=>?_;go_wp2;go_loopw [9,23] (λj i wr=>j= .bool false/\i=iV 0/\wr=w1) (λ_ _ _=>0);case atStart=>exact⟨rfl,rfl,rfl⟩
 case round=>
  obtain⟨rfl,rfl,g⟩:=hrel;have fJ:=g.symm;subst fJ;go_wp2;go_ret;exact⟨rfl,d⟩
def NH {m:Nat} (h:Ch w m ms) (b o n c bf:Nat) (d:List Int) (G:Src w (some (aD b o)) n d) (hd:Bytes d) (M8:n<=c) (xV:c<=9223372036854775807) (M:b≠m) (blocks:Nat) (fU:blocks<=2048) (qh:le (d.take 2)=bf) (h1:1<=bf) (rV:bf<=16) (W:n=2+516*bf):
  Calls prog 106 #[.map (some m), .slice (some (aD b o)) n c,iV (blocks:Int)] w λe w'=>ad (λk=>k=m) w w'/\((∃cs,gJ blocks d=some cs/\e= .returned (.bool true)/\Ch w' m (CM.dM ms cs))\/(gJ blocks d=none/\e= .returned (.bool false)/\Ch w' m ms)):=by
 have Lp:=h.lt;have tf:d.length=n:=G.1;have Y:=NF b o n c bf d w G hd M8 xV qh h1 rV W;have F:=FD (blocks:=blocks) (d:=d) (by omega) (by rw [qh];omega);rw [qh] at F;have u:=G.sub (2+4*bf) (512*bf) (by omega);have yF:∀lo i,i<bf->kP blocks d bf ((List.range i).map (et d)) lo i=if lo<=et d i/\et d i<blocks then kP blocks d bf ((List.range (i+1)).map (et d)) (et d i+1) (i+1) else none:=λlo i hi=>by
  have:=De (blocks:=blocks) (d:=d) (c:=bf) (lo:=lo) (i:=i) (ks:=(List.range i).map (et d)) hi (by omega);rw [Kf];exact this
 obtain⟨rest,kG⟩:=cF (d.drop (2+4*bf));have If:rest.length=512*bf:=by rw [kG,List.length_drop];omega
 have np:Bytes rest:=by rw [kG];exact hd.drop _
 rw [<-kG,wl (by omega)] at u;have oe:∀lo,kP blocks d bf ((List.range bf).map (et d)) lo bf=some (qt ((List.range bf).map (et d)) rest):=λlo=>by
  rw [kG];exact FE (by simp) (by omega)
 have si:=λi=>NG hd i;obtain⟨R,CS⟩:=cF (gJ blocks d);rw [<-CS] at F⊢;have vJ:∀cs,R=some cs->∀x∈cs,x.1<blocks:=λcs h=>qv (by rw [<-CS];exact h);have p:=yh (aQ h (aQ u (aQ F (aQ oe (aQ yF (aQ np (aQ If vJ)))))));clear G hd CS F oe yF kG tf W qh u h np If vJ;go_in;go_wp2_with fail;refine Y.mono ?_;rintro e w1 ⟨g,cap,S,rfl,X8,hg,aU,aq⟩;have eR:=aq.size;have l:=yh (aQ aU (aQ aq (aQ X8 (aQ M8 xV))));clear Y aU aq X8 M8 xV;go_wp2;go_loopw [9,10,23] (λwv av v wr=>∃(i lo:Nat) (A:Int) (z:Bool),v=iV i/\av=iV A/\wv= .bool z/\A=(lo:Int)-1/\lo<=4294967297/\i<=bf/\wr=w1/\(z=true->R=kP blocks d bf ((List.range i).map (et d)) lo i)/\(z=false->R=none)) (λ_ _ v _=>bf-(intOf v).toNat);case atStart=>exact⟨0,0,-1,true,rfl,rfl,rfl,by omega,by omega,by omega,rfl,λ_=>p.o.2.2.1,λh=>by cases h⟩
 case round=>
  obtain⟨i,lo,A,z,rfl,rfl,rfl,s,o8,hi,X,a,E⟩:=hrel;have fJ:=X.symm;subst fJ;have q:=yh (aQ s (aQ a E));clear X s a E;by_cases aS:i<bf
  .have cH:(i:Int)<(bf:Int):=(by omega);have oU:i<((List.range bf).map (et d)).length:=(by simpa using aS);have q0:w1.cell? (aD g i)=some (iV (et d i:Int)):=l.o.1.cell (j:=i) (by simp [A2,aS]);have hnK:=si i;have bu:=p.o.2.2.2.2.1 lo i aS;generalize U:et d i=K at*;obtain⟨HK,ig⟩:=eA U bu;clear U bu si;cases z with
   |false=>
    have E:=q.o.2.2 rfl;have f:=yh E;clear E;go_wp2;go_roundw;case rel=>exact⟨i+1,K+1,_,false,by go_num,rfl,rfl,by omega,by omega,by omega,trivial,(λh=>by cases h),λ_=>f.o⟩
    case measure=>simp [intOf];omega
   |true=>
    have a:=q.o.2.1 rfl;rw [ig.o] at a;by_cases I:lo<=K/\K<blocks
    .rw [aN I] at a;have X9:A<(K:Int):=(by have:=q.o.1;omega);have N:(K:Int)<(blocks:Int):=(by omega);have f:=yh a;clear a I;go_wp2;go_roundw;case rel=>exact⟨i+1,K+1,_,true,by go_num,rfl,rfl,by omega,by omega,by omega,trivial,(λ_=>f.o),λh=>by cases h⟩
     case measure=>simp [intOf];omega
    .rw [aB I] at a;have O:(¬A<(K:Int))\/(A<(K:Int)/\¬(K:Int)<(blocks:Int)):=(by have:=q.o.1;omega);have f:=yh a;clear a I;rcases O with X9|⟨X9,N⟩;all_goals
      go_wp2;go_roundw;case rel=>exact⟨i+1,K+1,_,false,by go_num,rfl,rfl,by omega,by omega,by omega,trivial,(λh=>by cases h),λ_=>f.o⟩
      case measure=>simp [intOf];omega
  .have cH:¬(i:Int)<(bf:Int):=(by omega);obtain rfl:i=bf:=(by omega);cases z with
   |false=>
    have f:=yh (q.o.2.2 rfl);clear q;go_wp2;go_ret;exact⟨ad.ag _ l.o.2.1, .inr ⟨f.o,rfl,p.o.1.later l.o.2.1⟩⟩
   |true=>
    have a:=q.o.2.1 rfl;rw [p.o.2.2.2.1 lo] at a;have f:=yh a;obtain⟨ks,iB⟩:=cF ((List.range i).map (et d));have rP:ks.length=i:=(by rw [iB];simp);have Ya:=yh (aQ iB rP);clear q a iB rP si;go_wp2;go_loopw [44] (λv Z=>∃j:Nat,v=iV j/\j<=i/\Ch Z m (CM.dM ms ((qt ks rest).take j))/\ad (λk=>k=m) w1 Z) (λv _=>i-(intOf v).toNat);case atStart=>exact⟨0,rfl,iq _,p.o.1.later l.o.2.1,ad.refl _ _⟩
    case round=>
     obtain⟨j,rfl,hj,oM,dR⟩:=hrel;have r:=yh (aQ oM dR);clear oM dR;by_cases r8:j<i
     .have NI:(j:Int)<(i:Int):=(by omega);have SR:g≠m:=(by omega);have t:j<ks.length:=(by rw [Ya.o.2];exact r8);have Sm:=l.o.1.agree (r.o.2.block g l.o.1.lt SR);have q0:wr.cell? (aD g j)=some (iV (ks[j]:Int)):=by
       refine Sm.cell (j:=j) ?_;rw [<-Ya.o.1];simp [A2,t]
      obtain⟨J,T⟩:∃J:Nat,J=512*j:=⟨_,rfl⟩;have e1:(j:Int)*512=(J:Int):=(by omega);have e2:((j:Int)+1)*512=((J+512:Nat):Int):=(by omega);have e3:(J:Int)<=((J+512:Nat):Int):=(by omega);have e4:((J+512:Nat):Int)<=(S:Int):=(by have:=l.o.2.2.1;omega);have e5:(0:Int)<=(J:Int):=(by omega);have e6:¬S=J:=(by have:=l.o.2.2.1;omega);have L:((rest.drop J).take 512).length=512:=(by rw [Iz,List.length_drop,p.o.2.2.2.2.2.2.1];omega);have D:Bytes ((rest.drop J).take 512):=(p.o.2.2.2.2.2.1.drop _).take 512;have VL:Src wr (some ⟨b,o+(2+4*i),none⟩) (512*i) rest:=(p.o.2.1.later l.o.2.1).oa r.o.2 (λy hy _=>by cases hy;exact M);have fN:=VL.sub J 512 (by omega);have H:=Ie ks rest j t;rw [show 512*j=J from T.symm] at H;have aJ:=dH L;generalize (rest.drop J).take 512=C at*;have tt:ks[j] <2048:=by
       have h8:(ks[j],C)∈qt ks rest:=List.mem_of_mem_take (i:=j+1) (by rw [H];exact List.mem_append_right _ (List.mem_singleton.2 rfl));have h9:=p.o.2.2.2.2.2.2.2 _ (by rw [f.o,<-Ya.o.1]) _ h8;have Wd:ks[j] <blocks:=h9;omega
      obtain⟨P,ct,Yb,wV,JB⟩:=r.o.1.store ks[j] tt C L D;generalize ks[j]=K at*;obtain⟨A,s⟩:=cF (bs C);have oH:wr.rangeAt b (o+(2+4*i)+J) A:=(by rw [s];exact l6 fN);rw [<-s] at aJ;have MQ:(Instr.mapUpdate 94 (.map (some m)) (iV (K:Int)) (.agg A.toArray)).run prog wr= .ok () P:=(by rw [s];exact ct);have HU:Yh (Ch P m (CM.dM ms ((qt ks rest).take (j+1)))/\ad (λk=>k=m) w1 P):=⟨by rw [H,Kb];exact Yb,r.o.2.trans wV (λ_ h=> .inl h)⟩;have hac:=vh;clear ct Yb wV JB fN VL H L D s T Sm SR t r;go_wp2_with (refine wpList_load_mid rfl 113 _ rfl b _ rfl A _ oH underlying113 rfl aJ ?_);go_roundw;case rel=>exact⟨j+1,by go_num,by omega,HU.o⟩
      case measure=>simp [intOf];omega
     .have NI:¬(j:Int)<(i:Int):=(by omega);obtain rfl:j=i:=(by omega);have Q:Yh (Ch wr m (CM.dM ms (qt ks rest))/\ad (λk=>k=m) w wr):=⟨by
       have:=r.o.1;rwa [wl (by rw [Dc,Ya.o.2];omega)] at this,(ad.ag (λk=>k=m) l.o.2.1).trans r.o.2 (λ_ h=> .inl h)⟩
      clear r;go_wp2;go_ret;exact⟨Q.o.2, .inl ⟨_,f.o,rfl,by rw [<-Ya.o.1];exact Q.o.1⟩⟩
def Kg {m:Nat} (h:Ch w m ms) (a:Option Addr) (n c:Nat) (d:List Int) (i:Src w a n d) (hd:Bytes d) (q:n<=1000000) (M8:n<=c) (xV:c<=9223372036854775807) (l:∀x,a=some x->0<n->x.block≠m) (blocks:Nat) (fU:blocks<=2048):
  Calls prog 106 #[.map (some m), .slice a n c,iV (blocks:Int)] w λe w'=>ad (λk=>k=m) w w'/\((∃cs,gJ blocks d=some cs/\e= .returned (.bool true)/\Ch w' m (CM.dM ms cs))\/(gJ blocks d=none/\e= .returned (.bool false)/\Ch w' m ms)):=by
 have tf:=i.1;by_cases p:n<2
 .refine(Dg h.lt a n c blocks (Df a n c w p)).mono ?_;rintro e w' ⟨rfl,f⟩;exact⟨ad.ag _ f, .inr ⟨Dd (.inl (by omega)),rfl,h.later f⟩⟩
 .obtain⟨b,o,rfl⟩:=is i (by omega);by_cases g:1<=le (d.take 2)/\le (d.take 2)<=16/\n=2+516*le (d.take 2)
  .exact NH h b o n c (le (d.take 2)) d i hd M8 xV (l _ rfl (by omega)) blocks fU rfl g.1 g.2.1 g.2.2
  .refine(Dg h.lt (some (aD b o)) n c blocks (Ke b o n c d w i hd (by omega) M8 q (by omega))).mono ?_;rintro e w' ⟨rfl,f⟩;refine⟨ad.ag _ f, .inr ⟨Dd (.inr ?_),rfl,h.later f⟩⟩;by_cases j:1<=le (d.take 2)/\le (d.take 2)<=16
   .exact .inr (λe=>g ⟨j.1,j.2,by omega⟩)
   .exact .inl j
section
def io (blocks:Nat):CM->List (List Int)->Option CM
 |ms, []=>some ms
 |ms,r :: rs=>match gJ blocks r with
  |none=>none
  |some cs=>io blocks (CM.dM ms cs) rs
def dT (S:DS) (s:Nat) (y:LY) (ov:CM) (rs:List (List Int)):Int×DS:=
 if rs= [] then (0,S) else if (ax S s y.home ov).1≠0 then ax S s y.home ov else (ax S s y.home ov).2.fl s
def Kh {P:Nat->Prop}:∀{cs:CM},(∀x∈ms,P x.1)->(∀x∈cs,P x.1)->∀x∈CM.dM ms cs,P x.1:=by
 intro cs
 induction cs generalizing ms with
 |nil=>intro h _ x a;exact h x a
 |cons q c f=>
  intro d b;have e:CM.dM ms (q :: c)=CM.dM (CM.put ms q.1 q.2) c:=rfl;rw [e];refine f (λx a=>?_) (λx a=>b x (List.mem_cons_of_mem _ a));rcases CM.oG a with rfl|a
  .exact b q (by simp)
  .exact d x a
def Ch.rD {w:World} {m:Nat} (h:Ch w m ms) {cur:Array Value} {t:TypeId} {c:Nat×Nat} (b:w.heap[m]? =some (.cells cur t c)):False:=by
 obtain⟨D,h⟩:=h;obtain⟨e,a,d,_⟩:=h.own;rw [d] at b;cases b
def FG (w:World) (v:Value) (rs:List (List Int)):Prop:=
 ∃vs,w.ownsRow 0 44 1 v rs.length vs/\∀i (hi:i<rs.length),∃g c,vs[i]? =some (.slice (some (aD g 0)) (rs[i]).length c)/\ao w 5 g c (bs rs[i])
def FG.shape {w:World} (h:FG w v rs):∃a n c,v= .slice a n c/\n=rs.length/\∀i (hi:i<rs.length),∃b g c',a=some (aD b 0)/\w.cell? (aD b i)=some (.slice (some (aD g 0)) (rs[i]).length c')/\ao w 5 g c' (bs rs[i]):=by
 obtain⟨s,f,m⟩:=h;have e:=f;obtain⟨r,⟨rfl,h0⟩|⟨g,d,cur,rfl,q,p,o⟩⟩:=f
 .exact⟨none,0,0,rfl,h0.symm,λi hi=>by omega⟩
 .refine⟨_,_,d,rfl,rfl,λi hi=>?_⟩;obtain⟨j,c',k,l⟩:=m i hi;refine⟨g,j,c',rfl,?_,l⟩;have:=e.cells (g:=g) rfl i _ k;rwa [aV,Nat.zero_add] at this
def FG.ak {w w':World} {m:Nat} (h:FG w v rs) (f:Ch w m ms) (d:ad (λk=>k=m) w w'):FG w' v rs:=by
 obtain⟨p,j,o⟩:=h;refine⟨p,lq j (λg n=>?_),λi hi=>?_⟩
 .obtain⟨cur,a⟩:=ay j n;exact d.block g (af a) (λe=>f.rD (by rw [<-e];exact a))
 .obtain⟨g,c,l,b⟩:=o i hi;refine⟨g,c,l,b.agree (d.block g b.lt (λe=>?_))⟩;obtain⟨cur,a,_⟩:=b;exact f.rD (by rw [<-e];exact a)
section
variable {w:World} {F:Nat->Prop} {p s c q l m:Nat} {S:DS} {y:LY} {busy:Bool}
def NJ (hd:B.aj w F p s S c) (hs:lT w q p l m y busy) (hm:Ch w m []) (hq:¬F q) (O0:¬F m) (hy:y.home+y.blocks<=s) (hv:FG w v rs) (np:∀r∈rs,Bytes r/\r.length<=1000000) (If:rs.length<=1000000) (bn:S.puts.length+3000<=4000000000000):
  Calls prog 54 #[pQ q,v] w λe w'=>(io y.blocks [] rs=none/\e= .panicked MG/\B.aj w' F p s S c/\ad (λk=>k=m) w w')\/(∃ov,io y.blocks [] rs=some ov/\e= .returned (iV (dT S s y ov rs).1)/\B.aj w' (more F w w') p s (dT S s y ov rs).2 c/\ad (λk=>k=m\/F k) w w'/\((dT S s y ov rs).1=0->Ch w' m [])):=by
 obtain⟨a,n,cp,rfl,hn,fE⟩:=hv.shape;have ME:=hd.ok.hi;have j:=yh (aQ hd (aQ hs (aQ hm (aQ hv (aQ np If)))));obtain⟨R,M⟩:=cF (io y.blocks [] rs);rw [<-M];clear hd hs hm hv np fE;by_cases X:n=0
 .have d0:(((n:Nat):Int) == 0)=true:=by rw [X];rfl
  obtain rfl:rs= []:=Ef (by omega);have D:=yh (show R=some [] from M);clear M X hn;go_in;go_wp2;go_ret;refine .inr ⟨[],D.o,rfl,?_,ad.refl _ _,λ_=>j.o.2.2.1⟩;exact j.o.1.more
 .have d0:(((n:Nat):Int) == 0)=false:=by
   rw [oE];omega
  have D:=yh (aQ M (aQ hn X));have XC:n<=1000000:=by omega
  clear M X hn If;go_in;go_wp2;go_loopw [14] (λiv wr=>∃(i:Nat) (ms:CM),iv=iV i/\i<=n/\Ch wr m ms/\(∀x∈ms,x.1<y.blocks)/\ad (λk=>k=m) w wr/\R=io y.blocks ms (rs.drop i)) (λiv _=>n-(intOf iv).toNat);case atStart=>exact⟨0, [],rfl,iq _,j.o.2.2.1,(λx O=>by cases O),ad.refl _ _,D.o.1⟩
  case round=>
   obtain⟨i,ms,rfl,hi,oM,vJ,dR,VM⟩:=hrel;have E0:q≠m:=λe=>j.o.2.2.1.rD (by rw [<-e];exact j.o.2.1);have bu:=j.o.2.1.ak dR (λe=>E0 e);have Ms:=j.o.2.2.2.1.ak j.o.2.2.1 dR;have lV:=j.o.1.ak dR (λk hF e=>O0 (e▸hF));by_cases aS:i<n
   .have cH:(i:Int)<(n:Int):=(by omega);have oU:i<rs.length:=(by rw [<-D.o.2.1];exact aS);obtain⟨a2,n2,cp2,e2,RL,fE⟩:=Ms.shape;cases e2;clear RL;obtain⟨b,g,c',rfl,q0,aU⟩:=fE i oU;have ey:=j.o.2.2.2.2.1 _ (List.getElem_mem oU);have SR:g≠m:=λe=>by
     obtain⟨cur,hc,_⟩:=aU;exact oM.rD (by rw [<-e];exact hc)
    have h1:=λ(wx:World) (hb:bW wr wx)=>Kg (oM.later hb) (some (aD g 0)) (rs[i]).length c' rs[i] (aU.src.later hb) ey.1 ey.2 (by have:=aU.le;simpa [bs] using this) (by have:=aU.max;unfold maxLen at this;omega) (λx O _=>by cases O;exact SR) y.blocks (by omega);rw [List.drop_eq_getElem_cons oU] at VM;have W:=yh (aQ vJ (aQ dR (aQ VM lV)));generalize rs[i]=r at*;have L:=bu.c7;have Z:=bu.c4;have HC:=yh (aQ L Z);have yH:=yh (λ(J:gJ y.blocks r=none)=>(by rw [W.o.2.2.1];unfold io;rw [J]:R=none));have NK:bW wr wr.drew:=ah (cW _ _);have z:=yh (λ(C:World) (La:ad (λk=>k=m) wr.drew C)=>((W.o.2.1.trans (ad.ag (λ_=>False) NK) (λ_ h=>h.elim)).trans La (λ_ h=> .inl h):ad (λk=>k=m) w C));have u:=yh (λ(C:World) (La:ad (λk=>k=m) wr.drew C)=>(⟨((bu.later NK).ak La (λe=>E0 e)).c7,((bu.later NK).ak La (λe=>E0 e)).c4⟩:C.cell? (aD q 7)=some (.map (some m))/\C.cell? (aD q 4)=some (iV (y.blocks:Int))));clear vJ dR VM lV oM Ms bu fE aU ey SR;go_wp2_with fail;refine wp_region_held_drew (S:=(λw'=>w'.cell? (aD q 7)=some (.map (some m))/\w'.cell? (aD q 4)=some (iV (y.blocks:Int)))) (by kernel_rfl) (HC.o) (λaC=>?_);refine wpAnyH_take (i:=0) (oi:={dst:=some 18,op:=Op.move (Operand.tmp 0),type:=34,pos:= "store.go:111",after:= #[],guard:=none}) (v:=pQ q) rfl (by kernel_rfl) (by kernel_rfl) (by kernel_rfl) (λ_ _ _ h=>h) (Or.inl ⟨by rfl,?_⟩) (by assumption) ?_
    .intro w aw
     (try dsimp only at aw)
     go_simp
    try simp only [Act.put,iA,jG,jZ]
    refine wpAnyH_take (i:=1) (oi:={dst:=some 19,op:=Op.nilCheck (Operand.tmp 18),type:=0,pos:= "store.go:111",after:= #[{on:=0,ground:=Ground.data}],guard:=none}) (v:=pQ q) rfl (by kernel_rfl) (by kernel_rfl) (by kernel_rfl) (λ_ _ _ h=>h) (Or.inl ⟨by rfl,?_⟩) (by assumption) ?_
    .intro w aw
     (try dsimp only at aw)
     go_simp
    try simp only [Act.put,iA,jG,jZ]
    refine wpAnyH_take (i:=2) (oi:={dst:=some 20,op:=Op.fieldAddr 96 (Operand.tmp 19) 3,type:=0,pos:= "store.go:111",after:= #[{on:=1,ground:=Ground.data}],guard:=none}) (v:= .pointer (some (aD q 7))) rfl (by kernel_rfl) (by kernel_rfl) (by kernel_rfl) (λ_ _ _ h=>h) (Or.inl ⟨by rfl,?_⟩) (by assumption) ?_
    .intro w aw
     (try dsimp only at aw)
     go_simp
    try simp only [Act.put,iA,jG,jZ]
    refine wpAnyH_take (i:=3) (oi:={dst:=some 21,op:=Op.load 94 (Operand.tmp 20),type:=94,pos:= "store.go:111",after:= #[{on:=2,ground:=Ground.data}],guard:=none}) (v:= .map (some m)) rfl (by kernel_rfl) (by kernel_rfl) (by kernel_rfl) (λ_ _ _ h=>h) (Or.inl ⟨by rfl,?_⟩) (by assumption) ?_
    .intro w aw
     (try dsimp only at aw)
     go_simp
    try simp only [Act.put,iA,jG,jZ]
    refine wpAnyH_take (i:=4) (oi:={dst:=some 22,op:=Op.move (Operand.tmp 6),type:=44,pos:= "store.go:111",after:= #[],guard:=none}) (v:= .slice (some (aD g 0)) r.length c') rfl (by kernel_rfl) (by kernel_rfl) (by kernel_rfl) (λ_ _ _ h=>h) (Or.inl ⟨by rfl,?_⟩) (by assumption) ?_
    .intro w aw
     (try dsimp only at aw)
     go_simp
    try simp only [Act.put,iA,jG,jZ]
    refine wpAnyH_take (i:=5) (oi:={dst:=some 23,op:=Op.move (Operand.tmp 0),type:=34,pos:= "store.go:111",after:= #[],guard:=none}) (v:=pQ q) rfl (by kernel_rfl) (by kernel_rfl) (by kernel_rfl) (λ_ _ _ h=>h) (Or.inl ⟨by rfl,?_⟩) (by assumption) ?_
    .intro w aw
     (try dsimp only at aw)
     go_simp
    try simp only [Act.put,iA,jG,jZ]
    refine wpAnyH_take (i:=6) (oi:={dst:=some 24,op:=Op.nilCheck (Operand.tmp 23),type:=0,pos:= "store.go:111",after:= #[{on:=5,ground:=Ground.data}],guard:=none}) (v:=pQ q) rfl (by kernel_rfl) (by kernel_rfl) (by kernel_rfl) (λ_ _ _ h=>h) (Or.inl ⟨by rfl,?_⟩) (by assumption) ?_
    .intro w aw
     (try dsimp only at aw)
     go_simp
    try simp only [Act.put,iA,jG,jZ]
    refine wpAnyH_take (i:=7) (oi:={dst:=some 25,op:=Op.fieldAddr 96 (Operand.tmp 24) 2,type:=0,pos:= "store.go:111",after:= #[{on:=6,ground:=Ground.data}],guard:=none}) (v:= .pointer (some (aD q 2))) rfl (by kernel_rfl) (by kernel_rfl) (by kernel_rfl) (λ_ _ _ h=>h) (Or.inl ⟨by rfl,?_⟩) (by assumption) ?_
    .intro w aw
     (try dsimp only at aw)
     go_simp
    try simp only [Act.put,iA,jG,jZ]
    refine wpAnyH_take (i:=8) (oi:={dst:=some 26,op:=Op.fieldAddr 87 (Operand.tmp 25) 2,type:=0,pos:= "store.go:111",after:= #[{on:=7,ground:=Ground.data}],guard:=none}) (v:= .pointer (some (aD q 4))) rfl (by kernel_rfl) (by kernel_rfl) (by kernel_rfl) (λ_ _ _ h=>h) (Or.inl ⟨by rfl,?_⟩) (by assumption) ?_
    .intro w aw
     (try dsimp only at aw)
     go_simp
    try simp only [Act.put,iA,jG,jZ]
    refine wpAnyH_take (i:=9) (oi:={dst:=some 27,op:=Op.load 3 (Operand.tmp 26),type:=3,pos:= "store.go:111",after:= #[{on:=8,ground:=Ground.data}],guard:=none}) (v:=iV (y.blocks:Int)) rfl (by kernel_rfl) (by kernel_rfl) (by kernel_rfl) (λ_ _ _ h=>h) (Or.inl ⟨by rfl,?_⟩) (by assumption) ?_
    .intro w aw
     (try dsimp only at aw)
     go_simp
    try simp only [Act.put,iA,jG,jZ]
    refine wpAnyH_ready (rs:= [10]) (by kernel_rfl) (by simp) ?_;refine AllReadyH.cons (o:={dst:=some 28,op:=Op.call {callee:=Callee.value (Operand.func 106),args:= #[Operand.tmp 21,Operand.tmp 22,Operand.tmp 27],argTypes:= #[94,44,3]},type:=4,pos:= "store.go:111",after:= #[{on:=3,ground:=Ground.data},{on:=4,ground:=Ground.data},{on:=9,ground:=Ground.data}],guard:=none}) rfl (λK E=>?_) AllReadyH.nil;go_simp;refine(h1 _ (ah (cW _ _))).mono ?_;rintro e C ⟨La,Dh⟩;rcases Dh.symm with ⟨J,rfl,_⟩|⟨cs,J,rfl,vw⟩
    .refine E.out _ _ (u.o _ La) (λaC=>?_);clear E K;try simp only [Act.put,iA,jG,jZ]
     refine wpAnyH_ready (rs:= [11]) (by kernel_rfl) (by simp) ?_;refine AllReadyH.cons (o:={dst:=some 29,op:=Op.call {callee:=Callee.value (Operand.func 105),args:= #[Operand.tmp 28],argTypes:= #[4]},type:=0,pos:= "store.go:111",after:= #[{on:=10,ground:=Ground.data},{on:=10,ground:=Ground.chain}],guard:=none}) rfl (λK E=>?_) AllReadyH.nil;go_simp;refine(Qt C).mono ?_;rintro e w9 ⟨rfl,un⟩;have ow:=un.symm;subst ow;exact⟨rfl, .inl ⟨yH.o J,rfl,j.o.1.ak (z.o _ La) (λk hF e=>O0 (e▸hF)),z.o _ La⟩⟩
    refine E.out _ _ (u.o _ La) (λaC=>?_);clear E K;try simp only [Act.put,iA,jG,jZ]
    refine wpAnyH_ready (rs:= [11]) (by kernel_rfl) (by simp) ?_;refine AllReadyH.cons (o:={dst:=some 29,op:=Op.call {callee:=Callee.value (Operand.func 105),args:= #[Operand.tmp 28],argTypes:= #[4]},type:=0,pos:= "store.go:111",after:= #[{on:=10,ground:=Ground.data},{on:=10,ground:=Ground.chain}],guard:=none}) rfl (λK E=>?_) AllReadyH.nil;go_simp;refine(Qs C).mono ?_;rintro e w9 ⟨rfl,un⟩;have ow:=un.symm;subst ow;refine E.out _ _ (u.o _ La) (λUA=>?_);clear E K UA;try simp only [Act.put,iA,jG,jZ]
    refine wpAnyH_done (by kernel_rfl) ?_ _;have hpn:=Dh;clear hpn Dh aC;have Q:=yh (aQ (z.o _ La) (aQ J vw));clear La J vw h1 u z yH NK q0;go_wp2;go_roundw;case rel=>exact⟨i+1,CM.dM ms cs,by go_num,by omega,Q.o.2.2,Kh (P:=λk=>k<y.blocks) W.o.1 (qv Q.o.2.1),Q.o.1,by
     have I:=W.o.2.2.1;unfold io at I;rw [Q.o.2.1] at I;exact I⟩
    case measure=>exact X6 (S:=n) (i:=i) (k:=i+1) aS (by omega)
   .have cH:¬(i:Int)<(n:Int):=(by omega);rw [List.drop_eq_nil_of_le (by have:=D.o.2.1;omega)] at VM;have N:R=some ms:=VM;have PT:=oM.small;have I:=pw lV bu oM hq O0 (λx O=>by have:=vJ x O;omega) bn;have tP:=eZ S s y.home ms;obtain⟨T,hT⟩:=cF (ax S s y.home ms);have nD:dT S s y ms rs=if T.1≠0 then T else T.2.fl s:=by
     unfold dT;rw [aB (λe=>by rw [e] at D;have:=D.o.2;simp at this),<-hT]
    rw [<-hT] at I tP;have d:=yh (aQ N (aQ nD (aQ dR (aQ bu (aQ oM lV.lt)))));clear VM N hT vJ dR bu Ms lV oM D nD;go_wp2_with fail;refine j8 I λw2 dS aK=>?_;clear I;obtain⟨eR,eE,Lp,Hi⟩:=jJ d.o.2.2.1.size aK.size d.o.2.2.2.2.1.lt d.o.2.2.2.1.lt;by_cases A:T.1=0
    .have d1:(T.1 == 0)=true:=(by rw [A];rfl);have d2:(T.1 != 0)=false:=(by simp [A]);have h3:=B.sv dS (by omega);have UB:=d.o.2.2.2.1.ak aK hq;have Y:=UB.c0;have nD:=d.o.2.1;rw [aB (λh=>h A)] at nD;obtain⟨U,hU⟩:=cF (T.2.fl s);rw [<-hU] at h3 nD;have f:=yh (aQ nD (aQ aK (aQ UB (d.o.2.2.2.2.1.ak aK O0))));clear hU nD UB dS aK A;go_wp2_with fail;refine j8 h3 λw3 eO aR=>?_;clear h3 Y;have rS:=aR.size;have OZ:¬more F wr w2 m:=λh=>by rcases h with h|h;exact O0 h;omega
     have acT:¬more F wr w2 q:=λh=>by rcases h with h|h;exact hq h;omega
     have UC:=f.o.2.2.1.ak aR acT;have UD:=f.o.2.2.2.ak aR OZ;have pR:ad (λk=>k=m\/F k) w w3:=((d.o.2.2.1.mono (G:=λk=>k=m\/F k) (λk e=> .inl e)).trans f.o.2.1 (λk h=> .inl (.inr h))).trans aR (λk h=>by rcases h with h|h;exact .inl (.inr h);exact .inr (by omega));by_cases H:U.1=0
     .have d3:(U.1 != 0)=false:=(by simp [H]);have d4:(U.1 == 0)=true:=(by rw [H];rfl);obtain⟨w4,ah3,Yc,dF,wt⟩:=UD.qJ;have L:=UC.c7;have t:=yh (aQ eO (aQ pR (aQ Yc (aQ dF (aQ H wt)))));clear eO aR UC UD pR Yc dF H wt;go_wp2;go_ret;refine .inr ⟨ms,d.o.1,by rw [f.o.1,t.o.2.2.2.2.1];rfl,?_,t.o.2.1.trans t.o.2.2.2.1 (λk e=> .inl (.inl e)),λ_=>t.o.2.2.1⟩;rw [f.o.1];have wt:=t.o.2.2.2.2.2;refine(t.o.1.ak t.o.2.2.2.1 (λk h e=>OZ (e▸h))).mono (λk h=>?_) (λk h=>?_)
      .rcases h with h|h
       .exact .inl h
       .exact .inr (by omega)
      .rcases h with h|h
       .have:=d.o.2.2.2.2.2 k h;omega
       .omega
     .have d3:(U.1 != 0)=true:=(by simp [H]);have d4:(U.1 == 0)=false:=(by simpa using H);have t:=yh (aQ eO (aQ pR H));clear eO aR UC UD pR H;go_wp2;go_ret;refine .inr ⟨ms,d.o.1,by rw [f.o.1];rfl,?_,t.o.2.1,λh=>absurd (by rw [f.o.1] at h;exact h) t.o.2.2⟩;rw [f.o.1];refine t.o.1.mono (λk h=>?_) (λk h=>?_)
      .rcases h with h|h
       .exact .inl h
       .exact .inr (by omega)
      .rcases h with h|h
       .have:=d.o.2.2.2.2.2 k h;omega
       .omega
    .have d1:(T.1 == 0)=false:=(by simpa using A);have d2:(T.1 != 0)=true:=(by simp [A]);have nD:=d.o.2.1;rw [aN A] at nD;have f:=yh (aQ nD (aQ aK (aQ dS A)));clear nD dS aK A;go_wp2;go_ret;refine .inr ⟨ms,d.o.1,by rw [f.o.1];rfl,?_,(d.o.2.2.1.mono (G:=λk=>k=m\/F k) (λk e=> .inl e)).trans f.o.2.1 (λk h=> .inl (.inr h)),λh=>absurd (by rw [f.o.1] at h;exact h) f.o.2.2.2⟩;rw [f.o.1];refine f.o.2.2.1.mono (λk h=>?_) (λk h=>?_)
     .rcases h with h|h
      .exact .inl h
      .exact .inr (by omega)
     .rcases h with h|h
      .have:=d.o.2.2.2.2.2 k h;omega
      .omega
end
end
namespace B
def NL {A:Nat} (h:aj w F p s S A) (ey:S.fL) (f n:Nat) (Z9:f+2+n<=s) (oI:1<=n) (hn:n<=256) (Q:S.fuse≠0) (bn:S.puts.length+1<=4000000000000):
  Calls prog 138 #[jg p f n] w λe w'=>∃v,e= .returned (.tuple #[v,iV 0])/\G4 w.heap.size w' n (λi=>jM (S.now (f+2+i))) v/\aj w' F p s S (A+n)/\ad F w w':=by
 obtain⟨X,hi,iX,eR,eE⟩:=info_parts ET;have hs:=h.ok.hi;have u:=yh h.lt;have JM:=yh (h.boxed (.cells #[.pointer (some ⟨p,0,none⟩), .int .i64 f, .int .i64 n] 136));have r:=yh ey;clear h ey;go_in;go_wp2_with (at_make;refine wpList_make_full _ rfl _ _ 171 rfl (w.heap.size+1) 207 X _ 5 underlying171 hi iX eR _ _ _ _ n rfl rfl ?c1 ?c2 ?c3 ?c4 ?c5 ?_);case c1=>rfl
 case c2=>rfl
 case c3=>rw [eE];omega
 case c4=>unfold maxLen;omega
 case c5=>simp
 intro w1 bB bS;have aq:Below (w.heap.size+1) (w.alloc (.cells #[.pointer (some ⟨p,0,none⟩), .int .i64 f, .int .i64 n] 136)) w1:=(cW _ _).grown bS (by simp) (by intro k J;cases J);obtain⟨_,⟨H,_⟩|⟨g',O,cur,H,ux,E,_,_,wI,_⟩⟩:=bB
 .cases H
 cases H;have cO:=(aq.block _ (by omega)).trans (heap_alloc_new _ _);have ew:=yh ((yh (an w (.cells #[.pointer (some ⟨p,0,none⟩), .int .i64 f, .int .i64 n] 136))).out.trans (aq.mono (by omega)));have aS:=af E;have Pk:Yh (fA w1 w1.heap.size (w.heap.size+1) n 0 (λi=>jM (S.now (f+2+i)))):=⟨⟨cur,E,wI⟩,λi hi=>by omega⟩;obtain⟨pd,M⟩:=eA (JM.o.later (by show Below _ _ _;rw [World.size_alloc];exact aq)) cO;have g:Yh (¬F w.heap.size/\¬F (w.heap.size+1)):=⟨λh=>by have:=u.o _ h;omega,λh=>by have:=u.o _ h;omega⟩;obtain⟨R,D⟩:∃R,R=(λi=>jM (S.now (f+2+i))):=⟨_,rfl⟩;rw [<-D] at Pk;have qD:=yh D;clear bS aq cO E ux wI D;go_wp2;go_loopw [13] (λi wr=>∃k:Nat,k<=n/\i=iV k/\fA wr w1.heap.size (w.heap.size+1) n k R/\aj wr F p s S (A+k)/\ad (λj=>F j\/j=w.heap.size+1) w1 wr) (λi _=>n-(intOf i).toNat);case atStart=>exact⟨0,iq _,rfl,Pk.o,pd.o,ad.refl _ _⟩
 case round=>
  obtain⟨k,J,rfl,Ig,hd,dR⟩:=hrel;by_cases q:k<n
  .have Y:(k:Int)<(n:Int):=(by omega);have cO:=dg M.o dR (λh=>by rcases h with h|h;exact g.o.1 h;omega);have I:=aL cO;have c1:=bY cO;have c2:=cJ cO;have C:=λwx=>GN p f n k wx (by omega) (by omega) (by omega) (by omega) (by omega);rw [show (f:Int)+2+(k:Int)%(n:Int)=((f+2+k:Nat):Int) by rw [Int.emod_eq_of_lt (by omega) (by omega)];omega] at C;obtain⟨H1,ZX,Aj,t,b⟩:=PG C Ig hd dR cO;clear C Ig hd dR cO;go_wp2_with fail;go_region_held3 (λw'=>w'.cell? (aD w.heap.size 0)=some (pQ p)/\w'.cell? (aD w.heap.size 1)=some (iV (f:Int))/\w'.cell? (aD w.heap.size 2)=some (iV (n:Int)))
    (first|exact⟨I,c1,c2⟩|exact⟨aL dV,bY dV,cJ dV⟩|exact⟨aL gy,bY gy,cJ gy⟩)
    (first
     |(go_at_call 166;refine(H1.o _).mono ?_;rintro e w2 ⟨rfl,aG⟩;have bH:=(ah (cW wr.heap.size wr)).trans aG;have dV:=(bH.block _ (af b.o)).trans b.o;have dS:=Aj.o.later bH)
     |(go_at_call 102;refine(Ce dS (f+2+k) (by omega) bn Q).mono ?_;rintro e Z ⟨v,rfl,U,eO,aR⟩;have gy:=dg dV aR g.o.1))
   obtain⟨N,P,rfl,TJ,TK⟩:=U;have dF:=(t.o.trans (ad.ag (λ_=>False) bH) (λ_ h=>h.elim)).trans aR (λ_ h=> .inl (.inl h));have NM:=((ZX.o.ak (ad.ag (λ_=>False) bH) (λh=>h) (λ_ h=>h.elim)).ak aR g.o.2 (λj a=>by have:=u.o j a;omega));have G:=B4 N _ P (S.now (f+2+k)) Z TJ (r.o.now _);rw [show jM (S.now (f+2+k))=R k by rw [qD.o]] at G;obtain⟨x,Mh,KX⟩:=pJ NM eO dF;clear aG bH dV gy dS eO aR dF NM TJ TK I c1 c2;go_wp2_with fail;refine G.mono ?_;rintro e K ⟨l,m,rfl,MU,Yd,eK⟩;have C6:=x.o.ak (ad.ag (λ_=>False) eK) (λh=>h) (λ_ h=>h.elim);have wt:=KX.o.size;have cC:K.there (w.heap.size+1) (k*5) (dJ ((R k).e:Int) ((R k).p:Int) ((R k).i:Int) ((R k).c:Int) l (R k).d.length m).size:=λj a=>by
    obtain⟨v,e⟩:=C6.spot q j a;exact⟨by rw [e];rfl,C6.fz _⟩
   have W9:=yh cC;have nP:=C6.snoc q (by omega) l m MU (λy W=>by have:=Yd y W;omega);have iB:=qW K (w.heap.size+1) (k*5) (iV ((R k).e:Int)) (iV ((R k).p:Int)) (iV ((R k).i:Int)) (iV ((R k).c:Int)) (.slice l (R k).d.length m);have cB:=(KX.o.trans (ad.ag (λ_=>False) eK) (λ_ h=>h.elim)).trans iB (λ_ h=> .inl (.inr h));have pp:=(Mh.o.later eK).ak iB (λj a e=>g.o.2 (e▸a));have L:=yh (aQ nP (aQ pp cB));have T:(0:Int)<=(k:Int):=(by omega);clear C6 nP iB cB pp MU Yd eK G cC;go_wp2_with (refine wpList_store_mid rfl 207 _ _ rfl (w.heap.size+1) (k*5) (dJ ((R k).e:Int) ((R k).p:Int) ((R k).i:Int) ((R k).c:Int) l (R k).d.length m) rfl rfl ?s1 ?s2 ?s3 ?_);case s1=>exact W9.o
   case s2=>exact iP
   case s3=>simp [Value.oneCell']
   go_roundw;case rel=>exact⟨k+1,by omega,by go_num,L.o⟩
   case measure=>simp [intOf];omega
  .have Y:¬(k:Int)<(n:Int):=(by omega);obtain rfl:k=n:=(by omega);have z:=yh (aQ Ig (aQ hd dR));clear Ig hd dR;go_wp2;go_ret2;refine⟨_,rfl,⟨w.heap.size+1,w1.heap.size,rfl,by omega,by omega,qD.o▸z.o.1⟩,z.o.2.1,?_⟩;exact(ad.ag F ew.o).trans z.o.2.2 (λj a=>by
    rcases a with a|a
    .exact .inl a
    .exact .inr (by omega))
end B
section
namespace B
section
variable {w:World} {F:Nat->Prop} {p s l cR:Nat} {S:DS} {L:LG}
def UE (h:aj w F p s S cR) (ey:S.fL) (f n:Nat) (Z9:f+2+n<=s) (oI:1<=n) (b:n<=256) (a:S.fuse≠0) (bn:S.puts.length+1<=4000000000000):
  Calls prog 138 #[jg p f n] w λe w'=>∃v,e= .returned (.tuple #[v, .int .i64 0])/\G4 w.heap.size w' n (fI S f) v/\aj w' F p s S (cR+n)/\ad F w w':=NL h ey f n Z9 oI b a bn
def FH (h:aj w F p s S cR) (j:bO w l p L) (c:¬F l) (ey:S.fL) (U:L.f+2+L.n<=s) (oI:1<=L.n) (q:L.n<=256) (M:S.fuse≠0) (bn:S.puts.length+1<=4000000000000):
  Calls prog 104 #[.pointer (some ⟨l,0,none⟩)] w λe w'=>od w' w.heap.size l p L S e/\aj w' F p s S (cR+2+L.n)/\ad (λk=>F k\/k=l) w w':=by
 obtain⟨o,aS,z,A,C,m⟩:=rY (Qr h L.f L.n bn M (by omega) (ey.now _) (ey.now _)) j.lt j.c0 j.c1 j.c2 ((λi=>pX (ey.now (L.f+2+i))));have K:=λw1 (kE:aj w1 F p s S (cR+2))=>UE kE ey L.f L.n U oI q M bn;unfold od;change Calls _ _ _ _ (λe w'=>e= .returned (.tuple #[.int .i64 ((bG S L.f).1:Int), .int .i64 ((bG S L.f).2.1:Int), .int .i64 ((bG S L.f).2.2:Int)])/\aj w' F p s S (cR+2)/\ad F w w') at o;by_cases t:(bG S L.f).2.2=0
 .rw [t] at o;have N:=(ui (S:=S) (f:=L.f)) t;simp only [aB (λh:¬(bG S L.f).2.2=0=>h t)];by_cases u:iC S L.f L.n=1073741824
  .simp only [aN u];have P:(max ((bG S L.f).1:Int) (jz (fI S L.f) L.n:Int) == 1073741824)=true:=(by unfold iC at u;rw [beq_iff_eq];omega);go_in;go_wp2_with fail;refine j8 o λw1 kE bo=>?_;have dD:=j.ak bo c;obtain⟨z,A,C⟩:=tO dD.c0 dD.c1 dD.c2;go_wp2_with fail;refine(K w1 kE).mono ?_;rintro e Y ⟨v,rfl,⟨g,B,rfl,T,WP,r⟩,dS,aK⟩;go_wp2_with fail;refine(G6 r q).mono ?_;rintro e a ⟨rfl,bH⟩;have kX:=(dD.ak aK c).later bH;obtain⟨c5,D,E,O,H,I,J,Q⟩:=PE kX.c5 kX.c6 kX.c7 kX.c8 (kX.fz 5) (kX.fz 6) (kX.fz 7) (kX.fz 8);have aR:ad (λk=>F k\/k=l) w (a.setCell ⟨l,8,none⟩ (.int .i64 (max ((bG S L.f).1:Int) (jz (fI S L.f) L.n:Int)))):=(((bo.trans aK (λ_ h=> .inl h)).trans (ad.ag (λ_=>False) bH) (λ_ h=>h.elim)).mono (λ_ h=> .inl h)).trans (aF (F:=λk=>F k\/k=l) a (.inr rfl) 8 _) (λ_ h=> .inl h);have eO:aj (a.setCell ⟨l,8,none⟩ (.int .i64 (max ((bG S L.f).1:Int) (jz (fI S L.f) L.n:Int)))) F p s S (cR+2+L.n):=(dS.later bH).ak (aF (F:=λk=>k=l) a rfl 8 _) (λk d e=>c (e▸d));go_wp2_with fail;go_ret2;exact⟨rfl,aQ eO aR⟩
  .simp only [aB u];have P:(max ((bG S L.f).1:Int) (jz (fI S L.f) L.n:Int) == 1073741824)=false:=(by unfold iC at u;rw [oE];omega);go_in;go_wp2_with fail;refine j8 o λw1 kE bo=>?_;have dD:=j.ak bo c;obtain⟨z,A,C⟩:=tO dD.c0 dD.c1 dD.c2;go_wp2_with fail;refine(K w1 kE).mono ?_;rintro e Y ⟨v,rfl,⟨g,B,rfl,T,WP,r⟩,dS,aK⟩;go_wp2_with fail;refine(G6 r q).mono ?_;rintro e a ⟨rfl,bH⟩;have kX:=(dD.ak aK c).later bH;obtain⟨D,E,O,H,I,J,Q⟩:=wG kX.c6 kX.c7 kX.c8 (kX.fz 5) (kX.fz 6) (kX.fz 7) (kX.fz 8);have aR:ad (λk=>F k\/k=l) w (a.setCell ⟨l,8,none⟩ (.int .i64 (max ((bG S L.f).1:Int) (jz (fI S L.f) L.n:Int)))):=(((bo.trans aK (λ_ h=> .inl h)).trans (ad.ag (λ_=>False) bH) (λ_ h=>h.elim)).mono (λ_ h=> .inl h)).trans (aF (F:=λk=>F k\/k=l) a (.inr rfl) 8 _) (λ_ h=> .inl h);have eO:aj (a.setCell ⟨l,8,none⟩ (.int .i64 (max ((bG S L.f).1:Int) (jz (fI S L.f) L.n:Int)))) F p s S (cR+2+L.n):=(dS.later bH).ak (aF (F:=λk=>k=l) a rfl 8 _) (λk d e=>c (e▸d));have eR:=bo.size;have R:=Mt g L.n (bG S L.f).1 (bG S L.f).2.1 (fI S L.f) _ B ((r.ak (ad.ag (λ_=>False) bH) (λh=>h) (λ_ h=>h.elim)).ak (aF (F:=λk=>k=l) a rfl 8 (.int .i64 (max ((bG S L.f).1:Int) (jz (fI S L.f) L.n:Int)))) (by omega) (λk d=>by omega)) oI q N.2.2 N.2.1 (λi=>(m i).2.2.2.2.1) (λi=>by have:=(m i).2.2.2.1;unfold fI;omega);have ZW:=(kX.Tz (max ((bG S L.f).1:Int) (jz (fI S L.f) L.n:Int)) (iC S L.f L.n) (by unfold iC;omega));have x:=(aQ eO aR);go_wp2_with fail;refine R.mono ?_;rintro e Z ⟨v,hd,rs,rfl,wm,W,X,eK⟩;have p7:=ZW.later eK;have kX.c5:=p7.c5;obtain⟨D,E,H,I,J,Ye,iB⟩:=wG p7.c6 p7.c7 (p7.fz 5) (p7.fz 6) (p7.fz 7) x.2.size (((aF (F:=λk=>k=l) Z rfl 5 (.int .i64 ((bG S L.f).1:Int))).trans (aF (F:=λk=>k=l) _ rfl 6 (.int .i64 ((bG S L.f).2.1:Int))) (λ_ h=> .inl h)).trans (aF (F:=λk=>k=l) _ rfl 7 (.int .i64 (hd:Int))) (λ_ h=> .inl h));have y:=(aQ (Told.mk ((((wm.tU (b:=l) (by omega) 5 (.int .i64 ((bG S L.f).1:Int))).tU (b:=l) (by omega) 6 (.int .i64 ((bG S L.f).2.1:Int))).tU (b:=l) (by omega) 7 (.int .i64 (hd:Int))).low Ye (λ_ h=>h)) W X (p7.marked (bG S L.f).1 (bG S L.f).2.1 hd)) (aQ ((x.1.later eK).ak iB (λk d e=>c (e▸d))) ((x.2.trans (ad.ag (λ_=>False) eK) (λ_ h=>h.elim)).trans (iB.mono (G:=λk=>F k\/k=l) (λ_ h=> .inr h)) (λ_ h=> .inl h))));go_wp2_with fail;go_ret2;exact⟨⟨_,_,_,rfl,y.1⟩,y.2⟩
 .have d0:(((bG S L.f).2.2:Int) == 0)=false:=by rw [oE];omega
  simp only [aN (λh=>t h:¬(bG S L.f).2.2=0)];go_in;go_wp2_with fail;refine j8 o λw1 kE bo=>?_;go_wp2_with fail;go_ret2;exact⟨rfl,aQ (kE.le (by omega:cR+2<=cR+2+L.n)) (bo.mono (G:=λk=>F k\/k=l) (λ_ h=> .inl h))⟩
end
end B
end
section
namespace B
def UF (S:DS) (s:Nat) (f n:Int):Nat:=if cP S s f n≠0 then 0 else n.toNat+2
section
variable {w:World} {F:Nat->Prop} {p s cR:Nat} {S:DS}
def NO (h:aj w F p s S cR) (ey:S.fL) (f n:Int) (bn:S.puts.length+500<=4000000000000):
  Calls prog 53 #[pQ p,iV f,iV n] w λe w'=>EX w w' p s S f n e/\aj w' F p s (bU S s f n).2 (cR+UF S s f n)/\ad F w w':=by
 have y:=h.lt;have E8:¬F w.heap.size:=λj=>by have:=h.lt _ j;omega
 have x:=(an w (.cells #[.pointer (some ⟨p,0,none⟩), .int .i64 f, .int .i64 n] 136));have D2:(w.alloc (.cells #[.pointer (some ⟨p,0,none⟩), .int .i64 f, .int .i64 n] 136)).heap[w.heap.size]? =some (.cells #[.pointer (some ⟨p,0,none⟩), .int .i64 f, .int .i64 n] 136 (0,0)):=heap_alloc_new _ _;have uM:=h.boxed (.cells #[.pointer (some ⟨p,0,none⟩), .int .i64 f, .int .i64 n] 136);have j:=qS uM f n;unfold EX bU UF;by_cases q:cP S s f n=0
 .simp only [aB (λh:¬cP S s f n=0=>h q)];obtain⟨KV,a,b,rfl,rfl,pA,aq,aG⟩:=it q;rw [q] at j;simp only [t7];have z:=(λ(c:World) (l:Nat) (dS:aj c F p s S.take cR) (K:bO c l p (LG.new S a b)) (uh:¬F l)=>(FH dS K uh ey.take pA (by show 1<=b;omega) aG KV (by show S.puts.length+1<=_;omega)).mono (λe w' h=>aQ h.1.TA (aQ (show aj w' F p s S.take (cR+2+b) from h.2.1) h.2.2)));by_cases A:(bG S a).2.2=0
  .have R3:=A;simp only [aB (λh:¬(bG S a).2.2=0=>h A)];by_cases C:iC S a b=1073741824
   .have qV:=C;simp only [aN C];simp only [aN (show (41:Int)≠0 by decide)];go_in;go_wp2_with fail;refine ef j λw1 g=>?_;have dj:w1.heap[w.heap.size]? =_:=(g.block _ (by simp)).trans D2;have m:=aL dj;have r:=bY dj;have t:=cJ dj;have ew:=(x.trans (g.mono (by simp)));go_wp2_with fail;go_region_held3 (λw'=>w'.cell? (aD w.heap.size 0)=some (pQ p)/\w'.cell? (aD w.heap.size 1)=some (iV (a:Int))/\w'.cell? (aD w.heap.size 2)=some (iV (b:Int)))
     (first|exact⟨m,r,t⟩|exact⟨aL dV,bY dV,cJ dV⟩|exact⟨aL (gy _),bY (gy _),cJ (gy _)⟩)
       ((go_at_call 42;refine(tp (uM.later (g.trans (ah (cW w1.heap.size w1) |>.mono g.size)))).mono ?_;rintro e c ⟨rfl,dS,aK⟩;have dV:=dg (w:=w1.drew) dj aK E8;have gy:=λo=>(an c o).block _ (af dV) |>.trans dV))
    have eR:w.heap.size<w1.heap.size:=(by have:=ew.size;have:=af dj;omega);have eE:w1.heap.size<=c.heap.size:=aK.size;have ir:bO (c.alloc (.cells (D1 p (LG.new S a b)) 143)) c.heap.size p (LG.new S a b):=heap_alloc_new _ _;have Sn:=(λh:F c.heap.size=>by have:=y _ h;omega:¬F c.heap.size);have vo:ad F w (c.alloc (.cells (D1 p (LG.new S a b)) 143)):=((ad.ag F (ah ew)).trans aK (λ_ h=> .inl h)).trans (ad.boxed F _) (λ_ h=> .inl h);go_wp2_with fail;refine(z _ c.heap.size (dS.boxed (.cells (D1 p (LG.new S a b)) 143)) ir Sn).mono ?_;rintro e u ⟨i,eO,aR⟩;rw [aB (λh=>h R3),aN qV] at i;subst i;go_wp2_with fail;go_ret3;exact⟨rfl,(aQ (eO.le (by omega:cR+2+b<=cR+(b+2))) (vo.trans aR (λk h=>h.elim .inl (λe=> .inr (by omega)))))⟩
   .have qV:=C;simp only [aB C];have E:=(λ(u:World) (eO:aj u F p s S.take (cR+2+b))=>sv eO (by show S.puts.length+1<=_;omega));generalize S.take.fl s=Y at*;by_cases k:Y.1=0
    .simp only [aB (λh:¬Y.1=0=>h k)];have d:(Y.1 == 0)=true:=(by rw [beq_iff_eq];exact k);go_in;go_wp2_with fail;refine ef j λw1 g=>?_;have dj:w1.heap[w.heap.size]? =_:=(g.block _ (by simp)).trans D2;have m:=aL dj;have r:=bY dj;have t:=cJ dj;have ew:=(x.trans (g.mono (by simp)));go_wp2_with fail;go_region_held3 (λw'=>w'.cell? (aD w.heap.size 0)=some (pQ p)/\w'.cell? (aD w.heap.size 1)=some (iV (a:Int))/\w'.cell? (aD w.heap.size 2)=some (iV (b:Int)))
      (first|exact⟨m,r,t⟩|exact⟨aL dV,bY dV,cJ dV⟩|exact⟨aL (gy _),bY (gy _),cJ (gy _)⟩)
        ((go_at_call 42;refine(tp (uM.later (g.trans (ah (cW w1.heap.size w1) |>.mono g.size)))).mono ?_;rintro e c ⟨rfl,dS,aK⟩;have dV:=dg (w:=w1.drew) dj aK E8;have gy:=λo=>(an c o).block _ (af dV) |>.trans dV))
     have eR:w.heap.size<w1.heap.size:=(by have:=ew.size;have:=af dj;omega);have eE:w1.heap.size<=c.heap.size:=aK.size;have ir:bO (c.alloc (.cells (D1 p (LG.new S a b)) 143)) c.heap.size p (LG.new S a b):=heap_alloc_new _ _;have Sn:=(λh:F c.heap.size=>by have:=y _ h;omega:¬F c.heap.size);have vo:ad F w (c.alloc (.cells (D1 p (LG.new S a b)) 143)):=((ad.ag F (ah ew)).trans aK (λ_ h=> .inl h)).trans (ad.boxed F _) (λ_ h=> .inl h);go_wp2_with fail;refine(z _ c.heap.size (dS.boxed (.cells (D1 p (LG.new S a b)) 143)) ir Sn).mono ?_;rintro e u ⟨i,eO,aR⟩;rw [aB (λh=>h R3),aB qV] at i;obtain⟨v,rs,hd,rfl,H⟩:=i;have nV:=(vo.trans aR (λk h=>h.elim .inl (λe=> .inr (by omega))));have D:w.heap.size<=(c.alloc (.cells (D1 p (LG.new S a b)) 143)).heap.size:=(by simp;omega);go_wp2_with fail;refine(E u eO).mono ?_;rintro e L ⟨rfl,tQ,dF⟩;have G:=(aQ ((H.low (B':=w.heap.size) D).ak dF (λk J=>y k J) Sn) (aQ (tQ.le (by omega:cR+2+b<=cR+(b+2))) (nV.trans dF (λ_ h=> .inl h))));go_wp2_with fail;go_ret3;exact⟨⟨_,_,_,_,rfl,by omega,G.1⟩,G.2⟩
    .simp only [aN (λh=>k h:¬Y.1=0)];have d:(Y.1 == 0)=false:=(by rw [oE];exact k);go_in;go_wp2_with fail;refine ef j λw1 g=>?_;have dj:w1.heap[w.heap.size]? =_:=(g.block _ (by simp)).trans D2;have m:=aL dj;have r:=bY dj;have t:=cJ dj;have ew:=(x.trans (g.mono (by simp)));go_wp2_with fail;go_region_held3 (λw'=>w'.cell? (aD w.heap.size 0)=some (pQ p)/\w'.cell? (aD w.heap.size 1)=some (iV (a:Int))/\w'.cell? (aD w.heap.size 2)=some (iV (b:Int)))
      (first|exact⟨m,r,t⟩|exact⟨aL dV,bY dV,cJ dV⟩|exact⟨aL (gy _),bY (gy _),cJ (gy _)⟩)
        ((go_at_call 42;refine(tp (uM.later (g.trans (ah (cW w1.heap.size w1) |>.mono g.size)))).mono ?_;rintro e c ⟨rfl,dS,aK⟩;have dV:=dg (w:=w1.drew) dj aK E8;have gy:=λo=>(an c o).block _ (af dV) |>.trans dV))
     have eR:w.heap.size<w1.heap.size:=(by have:=ew.size;have:=af dj;omega);have eE:w1.heap.size<=c.heap.size:=aK.size;have ir:bO (c.alloc (.cells (D1 p (LG.new S a b)) 143)) c.heap.size p (LG.new S a b):=heap_alloc_new _ _;have Sn:=(λh:F c.heap.size=>by have:=y _ h;omega:¬F c.heap.size);have vo:ad F w (c.alloc (.cells (D1 p (LG.new S a b)) 143)):=((ad.ag F (ah ew)).trans aK (λ_ h=> .inl h)).trans (ad.boxed F _) (λ_ h=> .inl h);go_wp2_with fail;refine(z _ c.heap.size (dS.boxed (.cells (D1 p (LG.new S a b)) 143)) ir Sn).mono ?_;rintro e u ⟨i,eO,aR⟩;rw [aB (λh=>h R3),aB qV] at i;obtain⟨v,rs,hd,rfl,H⟩:=i;have nV:=(vo.trans aR (λk h=>h.elim .inl (λe=> .inr (by omega))));go_wp2_with fail;refine(E u eO).mono ?_;rintro e L ⟨rfl,tQ,dF⟩;go_wp2_with fail;go_ret3;exact⟨rfl,aQ (tQ.le (by omega:cR+2+b<=cR+(b+2))) (nV.trans dF (λ_ h=> .inl h))⟩
  .have R3:=A;have I:(((bG S a).2.2:Int) == 0)=false:=(by rw [oE];omega);simp only [aN (λh=>A h:¬(bG S a).2.2=0)];simp only [aN (show (((bG S a).2.2:Nat):Int)≠0 by omega)];go_in;go_wp2_with fail;refine ef j λw1 g=>?_;have dj:w1.heap[w.heap.size]? =_:=(g.block _ (by simp)).trans D2;have m:=aL dj;have r:=bY dj;have t:=cJ dj;have ew:=(x.trans (g.mono (by simp)));go_wp2_with fail;go_region_held3 (λw'=>w'.cell? (aD w.heap.size 0)=some (pQ p)/\w'.cell? (aD w.heap.size 1)=some (iV (a:Int))/\w'.cell? (aD w.heap.size 2)=some (iV (b:Int)))
    (first|exact⟨m,r,t⟩|exact⟨aL dV,bY dV,cJ dV⟩|exact⟨aL (gy _),bY (gy _),cJ (gy _)⟩)
      ((go_at_call 42;refine(tp (uM.later (g.trans (ah (cW w1.heap.size w1) |>.mono g.size)))).mono ?_;rintro e c ⟨rfl,dS,aK⟩;have dV:=dg (w:=w1.drew) dj aK E8;have gy:=λo=>(an c o).block _ (af dV) |>.trans dV))
   have eR:w.heap.size<w1.heap.size:=(by have:=ew.size;have:=af dj;omega);have eE:w1.heap.size<=c.heap.size:=aK.size;have ir:bO (c.alloc (.cells (D1 p (LG.new S a b)) 143)) c.heap.size p (LG.new S a b):=heap_alloc_new _ _;have Sn:=(λh:F c.heap.size=>by have:=y _ h;omega:¬F c.heap.size);have vo:ad F w (c.alloc (.cells (D1 p (LG.new S a b)) 143)):=((ad.ag F (ah ew)).trans aK (λ_ h=> .inl h)).trans (ad.boxed F _) (λ_ h=> .inl h);go_wp2_with fail;refine(z _ c.heap.size (dS.boxed (.cells (D1 p (LG.new S a b)) 143)) ir Sn).mono ?_;rintro e u ⟨i,eO,aR⟩;rw [aN (λh=>R3 h)] at i;subst i;go_wp2_with fail;go_ret3;exact⟨rfl,(aQ (eO.le (by omega:cR+2+b<=cR+(b+2))) (vo.trans aR (λk h=>h.elim .inl (λe=> .inr (by omega)))))⟩
 .simp only [aN (λh=>q h:¬cP S s f n=0)];have I:(cP S s f n == 0)=false:=by rw [oE];exact q
  go_in;go_wp2_with fail;refine ef j λw1 g=>?_;go_wp2_with fail;go_ret3;exact⟨rfl,(aQ (uM.later g) (ad.ag F (x.trans (g.mono (by simp)))))⟩
end
end B
end
section
namespace B
section
variable {w:World} {F:Nat->Prop} {p s l cR:Nat} {S:DS} {L:LG}
def Ki (h:aj w F p s S cR) (t:bO w l p L) (a:L.Ok s) (q:¬F l) (ey:S.fL) (bn:S.puts.length+2<=4000000000000):
  Calls prog 55 #[pQ l] w λe w'=>e= .returned (iV (L.start S s).1)/\aj w' (more F w w') p s (L.start S s).2.1 (cR+2)/\bO w' l p (L.start S s).2.2/\ad (λk=>F k\/k=l) w w':=by
 obtain⟨i,j,c,aS,O,ah7⟩:=rY (qT h t) t h t.lt a.s a.top;unfold LG.start;have u:=(λb (dS:aj b F p s S cR)=>EZ dS L.f L.n (L.top+1) 0 (by omega) (by omega) bn (by have:=a.n1;omega) (ey.now _) (ey.now _));go_in;cases hd:L.dead S
 .rw [hd] at i;rw [aB (by decide)];cases r:L.begun
  .rw [aB (by decide)];generalize N:cw S s L.f (((L.top+1:Nat):Int)*4294967296+((0:Nat):Int))=Y at*;by_cases k:Y.1=0
   .rw [aB (λh=>h k)];have d:(Y.1 == 0)=true:=(by rw [beq_iff_eq];exact k);go_wp2_with fail;refine ef i λw1 aq=>?_;have dD:=j.later aq;obtain⟨x,y,z,g,A⟩:=gB dD.c0 dD.c1 dD.c2 dD.c4 dD.c8;rw [r] at g;have m:=u w1 (c.later aq);rw [show ((L.top+1:Nat):Int)=(L.top:Int)+1 by omega,show (((0:Nat):Int))=0 from rfl] at m;go_wp2_with fail;refine j8 m λb dS aK=>?_;have ir:=dD.ak aK q;obtain⟨I,J,K,M,g,D,E,H,eR,eE⟩:=GE (ir.fz 4) (ir.fz 5) (ir.fz 6) (ir.fz 7) ir.c4 ir.c5 ir.c6 ir.c7 aq.size aK.size;have C:ad (λk=>F k\/k=l) w ((((b.setCell ⟨l,4,none⟩ (.bool true)).setCell ⟨l,5,none⟩ (.int .i64 ((L.top:Int)+1))).setCell ⟨l,6,none⟩ (.int .i64 0)).setCell ⟨l,7,none⟩ (.int .i64 0)):=
       (((((ad.ag (λk=>F k\/k=l) aq).trans aK (λ_ h=> .inl (.inl h))).trans (aF (F:=λk=>k=l) b rfl 4 _) (λ_ h=> .inl (.inr h))).trans (aF (F:=λk=>k=l) _ rfl 5 _) (λ_ h=> .inl (.inr h))).trans (aF (F:=λk=>k=l) _ rfl 6 _) (λ_ h=> .inl (.inr h))).trans (aF (F:=λk=>k=l) _ rfl 7 _) (λ_ h=> .inl (.inr h))
    have o:aj ((((b.setCell ⟨l,4,none⟩ (.bool true)).setCell ⟨l,5,none⟩ (.int .i64 ((L.top:Int)+1))).setCell ⟨l,6,none⟩ (.int .i64 0)).setCell ⟨l,7,none⟩ (.int .i64 0)) (more F w1 b) p s Y.2 (cR+2):=by
     have eM:∀k,more F w1 b k->¬k=l:=λk a e=>by
      subst e;rcases a with a|a
      .exact q a
      .omega
     exact(((dS.ak (aF (F:=λk=>k=l) b rfl 4 _) eM).ak (aF (F:=λk=>k=l) _ rfl 5 _) eM).ak (aF (F:=λk=>k=l) _ rfl 6 _) eM).ak (aF (F:=λk=>k=l) _ rfl 7 _) eM
    have fy:((((b.setCell ⟨l,4,none⟩ (.bool true)).setCell ⟨l,5,none⟩ (.int .i64 ((L.top:Int)+1))).setCell ⟨l,6,none⟩ (.int .i64 0)).setCell ⟨l,7,none⟩ (.int .i64 0)).heap.size=b.heap.size:=(by simp [World.setCell]);have v:=(aQ ((o.mono (G:=more F w ((((b.setCell ⟨l,4,none⟩ (.bool true)).setCell ⟨l,5,none⟩ (.int .i64 ((L.top:Int)+1))).setCell ⟨l,6,none⟩ (.int .i64 0)).setCell ⟨l,7,none⟩ (.int .i64 0))) (λk a=>by
      rcases a with a|a
      .exact .inl a
      .exact .inr ⟨by omega,by rw [fy];exact a.2⟩) (cQ (F:=F) (w:=w) c.lt (by rw [fy];omega)))) (aQ (ir.started ((L.top:Int)+1) (L.top+1) (by omega)) C))
    go_wp2;go_ret;exact⟨rfl,v⟩
   .rw [aN k];have d:(Y.1 == 0)=false:=(by rw [oE];exact k);go_wp2_with fail;refine ef i λw1 aq=>?_;have dD:=j.later aq;obtain⟨x,y,z,g,A⟩:=gB dD.c0 dD.c1 dD.c2 dD.c4 dD.c8;rw [r] at g;have m:=u w1 (c.later aq);rw [show ((L.top+1:Nat):Int)=(L.top:Int)+1 by omega,show (((0:Nat):Int))=0 from rfl] at m;have ew:=aq;go_wp2_with fail;refine j8 m λb dS aK=>?_;go_wp2;go_ret;exact⟨rfl,(aQ (dS.from c.lt ew.size aK.size) (aQ (dD.ak aK q) ((ad.ag (λk=>F k\/k=l) ew).trans aK (λ_ h=> .inl (.inl h)))))⟩
  .rw [aN rfl];go_wp2_with fail;refine ef i λw1 aq=>?_;have g:=(j.later aq).c4;rw [r] at g;go_wp2;go_ret;exact⟨rfl,aQ (((c.later aq).more (w:=w)).le (by omega:cR<=cR+2)) (aQ (j.later aq) (ad.ag (λk=>F k\/k=l) aq))⟩
 .rw [hd] at i;rw [aN rfl];go_wp2_with fail;refine ef i λw1 aq=>?_;go_wp2;go_ret;exact⟨rfl,aQ (((c.later aq).more (w:=w)).le (by omega:cR<=cR+2)) (aQ (j.later aq) (ad.ag (λk=>F k\/k=l) aq))⟩
end
end B
end
def yI {R:Nat->PC} {E:Nat} (a:∀q,(R q).d.length<=492):∀{rs:List (List Int)} {P h:Nat},dI R E P rs h->∀d∈rs,d.length<=8364
 | [],_,_,_,d,hd=>by cases hd
 |x :: xs,P,h,⟨k,hk,ht⟩,d,hd=>by
  rcases List.mem_cons.1 hd with rfl|b
  .have e:∀c,(nW R P c).length<=492*c:=λc=>by
    induction c with
    |zero=>simp [tg]
    |succ c f=>rw [lA,gT];have:=a (P+c);omega
   have:=e k;have:=hk.2.1;rw [hk.2.2.2];omega
  .exact yI a ht d b
def tH {R:Nat->PC} {E:Nat} (b:∀q,Bytes (R q).d):∀{rs:List (List Int)} {P h:Nat},dI R E P rs h->∀d∈rs,Bytes d
 | [],_,_,_,d,hd=>by cases hd
 |x :: xs,P,h,⟨k,hk,ht⟩,d,hd=>by
  rcases List.mem_cons.1 hd with rfl|e
  .have f:∀c,Bytes (nW R P c):=λc=>by
    induction c with
    |zero=>intro x a;simp [tg] at a
    |succ c g=>
     rw [lA];intro x a;rcases List.mem_append.1 a with a|a
     .exact g x a
     .exact b _ x a
   rw [hk.2.2.2];exact f k
  .exact tH b ht d e
structure jc (S:DS) (f n:Nat) (rs:List (List Int)) (hd:Nat):Prop where
 t:dI (Rp (fI S f) n) (bG S f).1 (bG S f).2.1 rs hd
 x:∀c d,¬Rec (Rp (fI S f) n) (bG S f).1 hd c d
def jc.small {a b:Nat} (h:jc S a b rs hd) (ey:S.fL) (aq:1<=b):rs.length<=b/\(∀r∈rs,Bytes r/\r.length<=1000000)/\(bG S a).2.1<=hd/\hd<=(bG S a).2.1+b:=by
 have d:=dI.round aq (B6 (fI S a) b) h.t;have f:=dI.length h.t;have e:=dI.le h.t;refine⟨by omega,λr c=>⟨?_,?_⟩,e,d⟩
 .exact tH (λq=>(pX (ey.now (a+2+q%b))).2.2.2.2.2) h.t r c
 .have:=yI (λq=>(pX (ey.now (a+2+q%b))).2.2.2.2.1) h.t r c;omega
def gK (S:DS) (f n hd:Nat):LG:={LG.new S f n with ep:=(bG S f).1,tail:=(bG S f).2.1,head:=hd,top:=iC S f n}
def AG {a b:Nat} (h:jc S a b rs hd) (ey:S.fL) (d:(bG S a).2.2=0) (g:iC S a b≠1073741824) (pA:a+2+b<=s) (aq:18<=b) (aG:b<=256):(gK S a b hd).Ok s:=by
 obtain⟨_,_,e,f⟩:=h.small ey (by omega);have A8:=ui d;have Vt:=Ha (n:=b) d;refine⟨pA,aq,aG,A8.2.1,?_,e,f,?_,λc=>by cases c⟩
 .show iC S a b<_;omega
 .show hd<=_;omega
def mX {f:Nat} (h:(bU S s f n).1=0):cP S s f n=0/\(bG S f).2.2=0/\iC S f n≠1073741824/\bU S s f n=S.take.fl s:=by
 unfold bU at*;simp only [t7] at*;split at h
 .rename_i k;exact absurd h k
 .rename_i a;split at h
  .rename_i k;exact absurd (Int.ofNat_eq_zero.1 h) k
  .rename_i b;split at h
   .cases h
   .rename_i c;exact⟨Decidable.of_not_not a,Decidable.of_not_not b,c,by rw [aB a,aB b,aB c]⟩
def AH (a b:Nat) (f:Value) (x:Value) (w:World) (c:w.heap[a]? =some (.cells #[f] 34 (0,0))) (d:w.heap[b]? =some (.cells #[x] 39 (0,0))) (eM:a≠b):
  CallsD prog 51 #[.pointer (some ⟨a,0,none⟩), .pointer (some ⟨b,0,none⟩)] (.panicking MG) w λe i w'=>
   e= .returned (.tuple #[])/\i= .panicking [{v:= .iface 39 (.int .i64 6),recovered:=true}]/\w'=(w.setCell ⟨a,0,none⟩ (.pointer none)).setCell ⟨b,0,none⟩ (.int .i64 6):=by
 have acK:¬b=a:=λe=>eM e.symm;refine callsD_of_wpS func51 rfl λj cs g=>?_;apply wpS_seq;apply wpS_region;simp [wpOpsS,go_sem,recoverD,g,ntmps51,Exit.thenS];refine wpS_cond (t:=true) (by simp [Act.eval,Array.replicate]) ?_;simp only [if_true];apply wpS_region;simp [wpOpsS,go_sem,aL c,ae c 0,aL d,ae d 0,bodyPostS,results,results51]
def jp (b c:Nat) (w:World):
  CallsD prog 51 #[.pointer (some ⟨b,0,none⟩), .pointer (some ⟨c,0,none⟩)] .returning w λe f w'=>e= .returned (.tuple #[])/\f= .returning/\w'=w:=by
 refine callsD_of_wpS func51 rfl λa cs d=>?_;apply wpS_seq;apply wpS_region;simp [wpOpsS,go_sem,recoverD,d,ntmps51,Exit.thenS];refine wpS_cond (t:=false) (by simp [Act.eval,Array.replicate]) ?_;simp only [Bool.false_eq_true,if_false];refine wpS_of_wp (wp_skip ?_);cases a
 simp_all [bodyPostS,results,results51]
def pi (S:DS) (s:Nat) (x:Int) (S':DS):Prop:=
   (NB S s Sj x/\x≠0/\S'=S)\/
   (pD (S.now 0) s/\S.fuse≠0/\(((bU S s 1 ((co (S.now 0)).log:Nat)).1=x/\x≠0/\S'=(bU S s 1 ((co (S.now 0)).log:Nat)).2)\/
    ((bU S s 1 ((co (S.now 0)).log:Nat)).1=0/\∃rs hd,jc S 1 (co (S.now 0)).log rs hd/\
     ((io (co (S.now 0)).blocks [] rs=none/\x=6/\S'=(bU S s 1 ((co (S.now 0)).log:Nat)).2)\/
    ∃ov,io (co (S.now 0)).blocks [] rs=some ov/\
       (((dT (bU S s 1 ((co (S.now 0)).log:Nat)).2 s (co (S.now 0)) ov rs).1=x/\x≠0/\S'=(dT (bU S s 1 ((co (S.now 0)).log:Nat)).2 s (co (S.now 0)) ov rs).2)\/
        ((dT (bU S s 1 ((co (S.now 0)).log:Nat)).2 s (co (S.now 0)) ov rs).1=0/\((gK S 1 (co (S.now 0)).log hd).start (dT (bU S s 1 ((co (S.now 0)).log:Nat)).2 s (co (S.now 0)) ov rs).2 s).1=x/\S'=((gK S 1 (co (S.now 0)).log hd).start (dT (bU S s 1 ((co (S.now 0)).log:Nat)).2 s (co (S.now 0)) ov rs).2 s).2.1))))))
def Yf {a:World} (aS:∀k,F k->k<w.heap.size) (ir:w.heap.size+1<a.heap.size) (gm:a.heap[w.heap.size]? =some (.cells #[.pointer none] 34 (0,0))) (dU:a.heap[w.heap.size+1]? =some (.cells #[.int .i64 0] 39 (0,0))) (hd:B.aj a F p s S c) (i:ad F w a) (x:Int) (o:Obj):
    ((a.setCell ⟨w.heap.size+1,0,none⟩ (.int .i64 x)).alloc o).heap[w.heap.size]? =some (.cells #[.pointer none] 34 (0,0))/\((a.setCell ⟨w.heap.size+1,0,none⟩ (.int .i64 x)).alloc o).heap[w.heap.size+1]? =some (.cells #[.int .i64 x] 39 (0,0))/\((a.setCell ⟨w.heap.size+1,0,none⟩ (.int .i64 x)).alloc o).heap[a.heap.size]? =some o/\B.aj ((a.setCell ⟨w.heap.size+1,0,none⟩ (.int .i64 x)).alloc o) F p s S c/\ad F w ((a.setCell ⟨w.heap.size+1,0,none⟩ (.int .i64 x)).alloc o)/\((a.setCell ⟨w.heap.size+1,0,none⟩ (.int .i64 x)).alloc o).heap.size=a.heap.size+1:=by
 have b:=ad.setCell (F:=λk=>k=w.heap.size+1) a (p:=⟨w.heap.size+1,0,none⟩) rfl (.int .i64 x);have f:=size_setCell a ⟨w.heap.size+1,0,none⟩ (.int .i64 x);have d:=Below.heap_alloc (a.setCell ⟨w.heap.size+1,0,none⟩ (.int .i64 x)) o;refine⟨(d _ (by omega)).trans ((b.block _ (by omega) (by omega)).trans gm),(d _ (by omega)).trans ?_,?_,?_,?_,by rw [World.size_alloc,f]⟩
 .rw [heap_setCell_same _ _ _ _ _ _ dU];rfl
 .rw [<-f];exact heap_alloc_new _ _
 .exact(hd.ak b (λk g e=>by have:=aS _ g;omega)).boxed o
 .exact(i.trans b (λk e=> .inr (by omega))).trans (ad.alloc (λ_=>False) _ o) (λ_ h=>h.elim)
def oset {a:World} {u:Value} {y x:Int} (aS:∀k,F k->k<w.heap.size\/w.heap.size+2<=k) (gm:a.heap[w.heap.size]? =some (.cells #[u] 34 (0,0))) (dU:a.heap[w.heap.size+1]? =some (.cells #[.int .i64 y] 39 (0,0))) (hd:B.aj a F p s S c):
    ((a.setCell ⟨w.heap.size,0,none⟩ v).setCell ⟨w.heap.size+1,0,none⟩ (.int .i64 x)).heap[w.heap.size]? =some (.cells #[v] 34 (0,0))/\((a.setCell ⟨w.heap.size,0,none⟩ v).setCell ⟨w.heap.size+1,0,none⟩ (.int .i64 x)).heap[w.heap.size+1]? =some (.cells #[.int .i64 x] 39 (0,0))/\B.aj ((a.setCell ⟨w.heap.size,0,none⟩ v).setCell ⟨w.heap.size+1,0,none⟩ (.int .i64 x)) F p s S c/\ad (λk=>k=w.heap.size\/k=w.heap.size+1) a ((a.setCell ⟨w.heap.size,0,none⟩ v).setCell ⟨w.heap.size+1,0,none⟩ (.int .i64 x)):=by
 have b:=ad.setCell (F:=λk=>k=w.heap.size\/k=w.heap.size+1) a (p:=⟨w.heap.size,0,none⟩) (.inl rfl) v;have d:=ad.setCell (F:=λk=>k=w.heap.size\/k=w.heap.size+1) (a.setCell ⟨w.heap.size,0,none⟩ v) (p:=⟨w.heap.size+1,0,none⟩) (.inr rfl) (.int .i64 x);have f:(a.setCell ⟨w.heap.size,0,none⟩ v).heap[w.heap.size]? =some (.cells #[v] 34 (0,0)):=by
  rw [heap_setCell_same _ _ _ _ _ _ gm];rfl
 have g:(a.setCell ⟨w.heap.size,0,none⟩ v).heap[w.heap.size+1]? =some (.cells #[.int .i64 y] 39 (0,0)):=(Below.heap_setCell _ _ _ _ (by simp)).trans dU;refine⟨(Below.heap_setCell _ _ _ _ (by simp)).trans f,?_,?_,b.trans d (λ_ h=> .inl h)⟩
 .rw [heap_setCell_same _ _ _ _ _ _ g];rfl
 .exact hd.ak (b.trans d (λ_ h=> .inl h)) (λk i e=>by have:=aS _ i;omega)
def Kj (h:B.aj w F p s S c) (ey:S.fL) (bn:S.puts.length+1<=4000000000000) (lu:S.fuse=0\/¬pD (S.now 0) s):
  Calls prog 19 #[.pointer (some ⟨p,0,none⟩)] w λe w'=>∃x,e= .returned (.tuple #[.pointer none, .int .i64 x])/\pi S s x S/\B.aj w' F p s S (c+1)/\ad F w w':=by
 obtain⟨w1,bd⟩:=cF ((w.alloc (.cells #[.pointer none] 34)).alloc (.cells #[.int .i64 0] 39));have aH:Below w.heap.size w w1:=by rw [bd];exact bQ w _ _
 have jx:w1.heap.size=w.heap.size+2:=by rw [bd];simp
 have gm:w1.heap[w.heap.size]? =some (.cells #[.pointer none] 34 (0,0)):=by rw [bd];exact heap_alloc2_old _ _ _
 have dU:w1.heap[w.heap.size+1]? =some (.cells #[.int .i64 0] 39 (0,0)):=by rw [bd];exact heap_alloc2_new _ _ _
 have aS:=h.lt
 go_enter_defers func19,ntmps19
 go_wp2_with fail;rw [<-bd];refine(rA (h.later aH) ey bn).mono ?_;rintro e i ⟨y,x,rfl,o8,dS,aK⟩;have eE:=aK.size;have D2:x≠0/\y=Sj:=by
  rcases o8 with ⟨_,b,D⟩|⟨C,b,_⟩|⟨_,_,b,D⟩
  .exact⟨by omega,b⟩
  .rcases lu with h|h
   .exact absurd h C
   .exact absurd b h
  .exact⟨by omega,b⟩
 obtain⟨o,rfl⟩:=D2;have z:(pi S s x S):= .inl ⟨o8,o,rfl⟩;have Q0:=(aK.block w.heap.size (by omega) (λd=>by have:=aS _ d;omega)).trans gm;have Di:=(aK.block (w.heap.size+1) (by omega) (λd=>by have:=aS _ d;omega)).trans dU;have n:(B.aj i F p s S (c+1)/\ad F w i):=⟨dS,(ad.ag F aH).trans aK (λ_ h=> .inl h)⟩;have N:=aL Di;have O:=ae Di 0;have A:(x != 0)=true:=by simp [o]
 have ir:w.heap.size+1<i.heap.size:=by omega
 obtain⟨l,m,_,E,G,_⟩:=Yf aS ir Q0 Di n.1 n.2 x (.cells #[.int .i64 0, .int .i64 0, .int .i64 0, .int .i64 0, .int .i64 0] 87)
 dsimp only [Ph]
 go_upto_region 3 with fail
 generalize (i.setCell ⟨w.heap.size+1,0,none⟩ (.int .i64 x)).alloc (.cells #[.int .i64 0, .int .i64 0, .int .i64 0, .int .i64 0, .int .i64 0] 87)=K at*;obtain⟨g,L,P,M,Q⟩:=gB ((aQ l (aQ m (aQ E G)))) (aL l) (ae l 0) (aa m (j:=0) (u:= .int .i64 x) rfl) (ae m 0)
 go_upto_region 4 with fail
 go_region
 obtain⟨q,r,p3,H⟩:=oset (w:=w) (v:= .pointer none) (x:=x) (λk d=> .inl (aS k d)) g.1 g.2.1 g.2.2.1;generalize (K.setCell ⟨w.heap.size,0,none⟩ (.pointer none)).setCell ⟨w.heap.size+1,0,none⟩ (.int .i64 x)=a at*;have lQ:Below a.heap.size a a.drew:=ah (cW _ _);have t:(B.aj a.drew F p s S (c+1)/\ad F w a.drew):=⟨p3.later lQ,(g.2.2.2.trans H (λk e=> .inr (by omega))).trans (ad.ag (λ_=>False) lQ) (λ_ h=>h.elim)⟩;have I:=aa ((lQ.block _ (af q)).trans q) (j:=0) (u:= .pointer none) rfl;have J:=aa ((lQ.block _ (af r)).trans r) (j:=0) (u:= .int .i64 x) rfl;generalize a.drew=T at*;go_wp2;refine leaves_cons (f:=51) (args:= #[.pointer (some ⟨w.heap.size,0,none⟩), .pointer (some ⟨w.heap.size+1,0,none⟩)]) (by simp) (by simp [go_sem]) ?_;refine(jp _ _ _).mono ?_;rintro e R zn ⟨rfl,rfl,rfl⟩;simp [Leaves,settle,results,results19,go_sem,I,J];exact⟨z,t⟩
section
theorem Dj:(prog.info? 69).map (·.size)=some 2:=by kernel_rfl
theorem FI {w:World} {g:Nat} {a b:Value} (hx:w.heap[g]? =some (.cells #[a,b] 69 (0,0))):w.rangeAt g 0 [a,b]:=by
 intro j v hv
 match j,hv with
 |0,hv=>cases hv;exact aa hx (j:=0) rfl
 |1,hv=>cases hv;exact aa hx (j:=1) rfl
 |j+2,hv=>simp at hv
theorem acV {w:World} {b:Nat} {t:TypeId} {a0 a1:Value} (v0 v1:Value) (h:w.heap[b]? =some (.cells #[a0,a1] t (0,0))):
    (w.setCells b 0 [v0,v1]).heap[b]? =some (.cells #[v0,v1] t (0,0)):=by
 have h0:=(heap_setCell_same w b 0 _ t v0 h).trans (by rfl:_=some (.cells #[v0,a1] t (0,0)));exact(heap_setCell_same _ b 1 _ t v1 h0).trans rfl
section
variable {w:World} {l1 l2:List Bool}
theorem yJ {g1 c1 g2 c2:Nat} (h1:ao w 4 g1 c1 (fK l1)) (h2:ao w 4 g2 c2 (fK l2)) (dD:l1.length=4096) (ir:l2.length=4096):
  Calls prog 109 #[.agg #[.slice (some ⟨g1,0,none⟩) 4096 c1, .slice (some ⟨g2,0,none⟩) 4096 c2]] w λe w'=>∃u1 u2:Nat,∃d1 d2,e= .returned (.agg #[.slice (some ⟨u1,0,none⟩) 4096 d1, .slice (some ⟨u2,0,none⟩) 4096 d2])/\w.heap.size<=u1/\w.heap.size<=u2/\u1≠u2/\ao w' 4 u1 d1 (fK l1)/\ao w' 4 u2 d2 (fK l2)/\Below w.heap.size w w':=by
 obtain⟨w1,bd⟩:∃w1,w1=(w.alloc (.cells #[.slice (some ⟨g1,0,none⟩) 4096 c1, .slice (some ⟨g2,0,none⟩) 4096 c2] 69)).alloc (.cells #[.slice none 0 0, .slice none 0 0] 69):=⟨_,rfl⟩;have aH:Below w.heap.size w w1:=by rw [bd];exact bQ w _ _
 have dj:w1.heap[w.heap.size]? =some (.cells #[.slice (some ⟨g1,0,none⟩) 4096 c1, .slice (some ⟨g2,0,none⟩) 4096 c2] 69 (0,0)):=by rw [bd];exact heap_alloc2_old _ _ _
 have dV:w1.heap[w.heap.size+1]? =some (.cells #[.slice none 0 0, .slice none 0 0] 69 (0,0)):=by rw [bd];exact heap_alloc2_new _ _ _
 have fy:w1.heap.size=w.heap.size+2:=by rw [bd];simp
 have Pm:Below w.heap.size w w1.drew:=ah aH;have c0:w1.drew.cell? ⟨w.heap.size,0,none⟩=some (.slice (some ⟨g1,0,none⟩) 4096 c1):=aa (w:=w1.drew) dj (j:=0) rfl;have Hv:w1.drew.cell? ⟨w.heap.size,1,none⟩=some (.slice (some ⟨g2,0,none⟩) 4096 c2):=aa (w:=w1.drew) dj (j:=1) rfl;have k1:=vC (h1.agree (Pm.block _ h1.lt)) (by omega);rw [dD] at k1;have k8:Yh (∀w2,Below w1.drew.heap.size w1.drew w2->Calls prog 144 #[.slice (some ⟨g2,0,none⟩) 4096 c2] w2 λe w'=>∃v,e= .returned v/\BL w' w2.heap.size v l2/\Below w2.heap.size w2 w'):=λw2 hb=>by
  have:=vC (w:=w2) ((h2.agree (Pm.block _ h2.lt)).agree (hb.block _ (h2.agree (Pm.block _ h2.lt)).lt)) (by omega);rwa [ir] at this
 have HB:=yh Pm;have KY:Yh (w1.drew.heap[w.heap.size+1]? =some (.cells #[.slice none 0 0, .slice none 0 0] 69 (0,0))):=dV;have O7:=yh dD;have RT:=yh ir;have ah9:w1.drew.heap.size=w.heap.size+2:=fy;clear h1 h2 aH Pm dj dV dD ir fy;go_enter func109,ntmps109;go_wp2_with fail;rw [<-bd];clear bd;refine wp_region_held_drew (S:=(λw'=>w'.cell? ⟨w.heap.size,0,none⟩=some (.slice (some ⟨g1,0,none⟩) 4096 c1)/\w'.cell? ⟨w.heap.size,1,none⟩=some (.slice (some ⟨g2,0,none⟩) 4096 c2))) (by kernel_rfl) (⟨c0,Hv⟩) (λaC=>?_);refine wpAnyH_take (i:=0) (oi:={dst:=some 3,op:=Op.fieldAddr 69 (Operand.tmp 1) 0,type:=0,pos:= "ref.go:53",after:= #[],guard:=none}) (v:= .pointer (some ⟨w.heap.size,0,none⟩)) rfl (by kernel_rfl) (by kernel_rfl) (by kernel_rfl) (λ_ _ _ h=>h) (Or.inl ⟨by rfl,?_⟩) (by assumption) ?_
 .intro w aw
  (try dsimp only at aw)
  go_simp
 try simp only [Act.put,List.setIfInBounds_toArray,List.set_cons_zero,List.set_cons_succ]
 refine wpAnyH_take (i:=1) (oi:={dst:=some 4,op:=Op.load 66 (Operand.tmp 3),type:=66,pos:= "ref.go:53",after:= #[{on:=0,ground:=Ground.data}],guard:=none}) (v:= .slice (some ⟨g1,0,none⟩) 4096 c1) rfl (by kernel_rfl) (by kernel_rfl) (by kernel_rfl) (λ_ _ _ h=>h) (Or.inl ⟨by rfl,?_⟩) (by assumption) ?_
 .intro w aw
  (try dsimp only at aw)
  go_simp
 try simp only [Act.put,List.setIfInBounds_toArray,List.set_cons_zero,List.set_cons_succ]
 refine wpAnyH_take (i:=3) (oi:={dst:=some 6,op:=Op.fieldAddr 69 (Operand.tmp 1) 1,type:=0,pos:= "ref.go:53",after:= #[],guard:=none}) (v:= .pointer (some ⟨w.heap.size,1,none⟩)) rfl (by kernel_rfl) (by kernel_rfl) (by kernel_rfl) (λ_ _ _ h=>h) (Or.inl ⟨by rfl,?_⟩) (by assumption) ?_
 .intro w aw
  (try dsimp only at aw)
  go_simp
 try simp only [Act.put,List.setIfInBounds_toArray,List.set_cons_zero,List.set_cons_succ]
 refine wpAnyH_take (i:=4) (oi:={dst:=some 7,op:=Op.load 66 (Operand.tmp 6),type:=66,pos:= "ref.go:53",after:= #[{on:=3,ground:=Ground.data}],guard:=none}) (v:= .slice (some ⟨g2,0,none⟩) 4096 c2) rfl (by kernel_rfl) (by kernel_rfl) (by kernel_rfl) (λ_ _ _ h=>h) (Or.inl ⟨by rfl,?_⟩) (by assumption) ?_
 .intro w aw
  (try dsimp only at aw)
  go_simp
 try simp only [Act.put,List.setIfInBounds_toArray,List.set_cons_zero,List.set_cons_succ]
 refine wpAnyH_ready (rs:= [2]) (by kernel_rfl) (by simp) ?_;refine AllReadyH.cons (o:={dst:=some 5,op:=Op.call {callee:=Callee.value (Operand.func 144),args:= #[Operand.tmp 4],argTypes:= #[66]},type:=66,pos:= "ref.go:53",after:= #[{on:=1,ground:=Ground.data}],guard:=none}) rfl (λK hK=>?_) AllReadyH.nil;go_simp;refine k1.mono ?_;rintro e w2 ⟨v1,rfl,Yg,aG⟩;have d0:=cell_later aG c0;have d1:=cell_later aG Hv;obtain⟨u1,NP,rfl,hu1,cI⟩:=Yg.row (by rw [O7.o];omega);rw [O7.o];refine hK.out _ _ ?_ (λaC=>?_)
 .exact⟨d0,d1⟩
 clear hK K;try simp only [Act.put,List.setIfInBounds_toArray,List.set_cons_zero,List.set_cons_succ]
 refine wpAnyH_ready (rs:= [5]) (by kernel_rfl) (by simp) ?_;refine AllReadyH.cons (o:={dst:=some 8,op:=Op.call {callee:=Callee.value (Operand.func 144),args:= #[Operand.tmp 7],argTypes:= #[66]},type:=66,pos:= "ref.go:53",after:= #[{on:=4,ground:=Ground.data},{on:=2,ground:=Ground.chain}],guard:=none}) rfl (λK hK=>?_) AllReadyH.nil;go_simp;refine(k8.o w2 aG).mono ?_;rintro e w3 ⟨v2,rfl,Yi,bH⟩;have i0:=cell_later bH d0;have i1:=cell_later bH d1;obtain⟨u2,NQ,rfl,hu2,eB⟩:=Yi.row (by rw [RT.o];omega);rw [RT.o];refine hK.out _ _ ?_ (λaC=>?_)
 .exact⟨i0,i1⟩
 clear hK K;try simp only [Act.put,List.setIfInBounds_toArray,List.set_cons_zero,List.set_cons_succ]
 refine wpAnyH_take (i:=6) (oi:={dst:=some 9,op:=Op.build 69 #[(0,Operand.tmp 5),(1,Operand.tmp 8)],type:=69,pos:= "ref.go:53",after:= #[{on:=2,ground:=Ground.data},{on:=5,ground:=Ground.data}],guard:=none}) (v:= .agg #[.slice (some ⟨u1,0,none⟩) 4096 NP, .slice (some ⟨u2,0,none⟩) 4096 NQ]) rfl (by kernel_rfl) (by kernel_rfl) (by kernel_rfl) (λ_ _ _ h=>h) (Or.inl ⟨by rfl,?_⟩) (by assumption) ?_
 .intro w aw
  (try dsimp only at aw)
  go_simp
 try simp only [Act.put,List.setIfInBounds_toArray,List.set_cons_zero,List.set_cons_succ]
 have sM:=(bH.block _ (Nat.lt_of_lt_of_le (af KY.o) aG.size)).trans ((aG.block _ (af KY.o)).trans KY.o);have UG:=cI.agree (bH.block _ cI.lt);have eE:=aG.size;have rS:=bH.size;have aia:=cI.lt;have hk:ad (λk=>k=w.heap.size+1) w3 (w3.setCells (w.heap.size+1) 0 [.slice (some ⟨u1,0,none⟩) 4096 NP, .slice (some ⟨u2,0,none⟩) 4096 NQ]):=ad.setCells (F:=λk=>k=w.heap.size+1) rfl _ 0 _;have oH:=FI (acV (.slice (some ⟨u1,0,none⟩) 4096 NP) (.slice (some ⟨u2,0,none⟩) 4096 NQ) sM);have HN:Yh (w.heap.size<=u1/\w.heap.size<=u2/\u1≠u2/\ao (w3.setCells (w.heap.size+1) 0 [.slice (some ⟨u1,0,none⟩) 4096 NP, .slice (some ⟨u2,0,none⟩) 4096 NQ]) 4 u1 NP (fK l1)/\ao (w3.setCells (w.heap.size+1) 0 [.slice (some ⟨u1,0,none⟩) 4096 NP, .slice (some ⟨u2,0,none⟩) 4096 NQ]) 4 u2 NQ (fK l2)/\Below w.heap.size w (w3.setCells (w.heap.size+1) 0 [.slice (some ⟨u1,0,none⟩) 4096 NP, .slice (some ⟨u2,0,none⟩) 4096 NQ])):=⟨by omega,by omega,by omega,UG.agree (hk.block _ UG.lt (by omega)),eB.agree (hk.block _ eB.lt (by omega)),(HB.o.trans ((aG.mono (by omega)).trans (bH.mono (by omega)))).trans (hk.below (λk e=>by omega) (by omega))⟩;have cc0:(w3.setCells (w.heap.size+1) 0 [.slice (some ⟨u1,0,none⟩) 4096 NP, .slice (some ⟨u2,0,none⟩) 4096 NQ]).cell? ⟨w.heap.size,0,none⟩=some (.slice (some ⟨g1,0,none⟩) 4096 c1):=by rw [World.cell?_of_block (hk.block _ (World.block_lt_of_cell? _ _ i0) (by show¬w.heap.size=w.heap.size+1;omega))];exact i0
 have cc1:(w3.setCells (w.heap.size+1) 0 [.slice (some ⟨u1,0,none⟩) 4096 NP, .slice (some ⟨u2,0,none⟩) 4096 NQ]).cell? ⟨w.heap.size,1,none⟩=some (.slice (some ⟨g2,0,none⟩) 4096 c2):=by rw [World.cell?_of_block (hk.block _ (World.block_lt_of_cell? _ _ i1) (by show¬w.heap.size=w.heap.size+1;omega))];exact i1
 refine wpAnyH_ready (rs:= [7]) (by kernel_rfl) (by simp) ?_;refine AllReadyH.cons (o:={dst:=none,op:=Op.store 69 (Operand.tmp 2) (Operand.tmp 9),type:=0,pos:= "ref.go:53",after:= #[{on:=6,ground:=Ground.data},{on:=5,ground:=Ground.chain},{on:=0,ground:=Ground.phase},{on:=1,ground:=Ground.phase},{on:=2,ground:=Ground.phase},{on:=3,ground:=Ground.phase},{on:=4,ground:=Ground.phase},{on:=5,ground:=Ground.phase},{on:=6,ground:=Ground.phase}],guard:=none}) rfl (λK hK=>?_) AllReadyH.nil;rw [if_pos (by rfl)];refine wp_store_mid _ _ _ rfl (w.heap.size+1) 0 #[.slice (some ⟨u1,0,none⟩) 4096 NP, .slice (some ⟨u2,0,none⟩) 4096 NQ] rfl rfl (aZ sM (n:=2) rfl) Dj (by simp [Value.oneCell']) ?_;refine hK.out _ _ ?_ (λaC=>?_)
 .exact⟨cc0,cc1⟩
 clear hK K;refine wpAnyH_done (by kernel_rfl) ?_ _;have Uf:=yh oH;clear oH hk sM cI UG eB Yg Yi aG bH i0 i1 d0 d1 c0 Hv cc0 cc1 k1 aC;go_wp2;refine bodyPost_ret (cN (P:=prog) rfl _ _ (w.heap.size+1) _ _ rfl Uf.o underlying69 rfl Dj) rfl ⟨u1,u2,NP,NQ,rfl,HN.o⟩
end
end
section
structure MP where
 blocks:Nat
 nodes:Nat
 ob:List Bool
 on:List Bool
 nb:List Bool
 nn:List Bool
 eI:List (List Int)
 raw:List (List Int)
 put:List Nat
 bad:Int
 opn:Bool
 dead:Bool
def nG (w:World) (X:Nat->Prop) (v:Value) (rs:List (List Int)):Prop:=
 ∃xs,w.ownsRow 0 44 1 v rs.length xs/\(∀g,v.ownBlock=some g->X g)/\∀i (hi:i<rs.length),∃g c,xs[i]? =some (.slice (some ⟨g,0,none⟩) 512 c)/\X g/\ao w 5 g c (bs rs[i])
def BX (w:World) (X:Nat->Prop) (g c:Nat) (l:List Bool):Prop:=X g/\ao w 4 g c (fK l)/\l.length=4096
section
variable {w w':World} {X Y Z:Nat->Prop} {v:Value} {rs:List (List Int)} {g c:Nat} {l:List Bool}
theorem nG.nil (w:World) (X:Nat->Prop):nG w X (.slice none 0 0) []:=⟨[],World.ownsRow_nil _ _ _ _,(λg h=>by simp [Value.ownBlock] at h),λi hi=>by cases hi⟩
theorem nG.mono (h:nG w X v rs) (hX:∀g,X g->Y g):nG w Y v rs:=by
 obtain⟨xs,h1,h2,h3⟩:=h;refine⟨xs,h1,λg hg=>hX g (h2 g hg),λi hi=>?_⟩;obtain⟨g,c,e1,e2,e3⟩:=h3 i hi;exact⟨g,c,e1,hX g e2,e3⟩
theorem nG.ak (h:nG w X v rs) (hk:ad Z w w') (hZ:∀g,Z g->∃cur t fz,w.heap[g]? =some (.cells cur t fz)/\t≠5/\t≠44):nG w' X v rs:=by
 obtain⟨xs,h1,h2,h3⟩:=h;refine⟨xs,bP h1 (λg hg=>?_),h2,λi hi=>?_⟩
 .obtain⟨cur,hc⟩:=ay h1 hg;refine hk.block g (af hc) (λhq=>?_);obtain⟨cur',t,fz,G2,_,ht⟩:=hZ g hq;exact fH G2 hc ht
 .obtain⟨g,c,e1,e2,e3⟩:=h3 i hi;refine⟨g,c,e1,e2,e3.agree (hk.block g e3.lt (λhq=>?_))⟩;obtain⟨cur',t,fz,G2,ht,_⟩:=hZ g hq;obtain⟨cur,hb,_⟩:=e3;exact fH G2 hb ht
theorem nG.later (h:nG w X v rs) (hb:Below w.heap.size w w'):nG w' X v rs:=h.ak (ad.ag (λ_=>False) hb) (λ_ h=>h.elim)
theorem nG.app (h:nG w X v rs) {l:List Int} (hx:X g) (hr:ao w 5 g c (bs l)) (hn:rs.length<=1000000):
  ∃g2 gw w2,(Builtin.append_ #[70,70] 70 #[v, .slice (some ⟨w.heap.size,0,none⟩) 1 1]).run prog (w.alloc (.cells #[.slice (some ⟨g,0,none⟩) 512 c] 44))= .ok (.slice (some ⟨g2,0,none⟩) (rs.length+1) gw) w2/\nG w2 (λj=>X j\/w.heap.size<=j) (.slice (some ⟨g2,0,none⟩) (rs.length+1) gw) (rs ++ [l])/\ad (λj=>v.ownBlock=some j) w w2/\(v.ownBlock=some g2\/w.heap.size<=g2):=by
 obtain⟨xs,h1,h2,h3⟩:=h;obtain⟨i0,hi,iX,eR,eE⟩:=info_parts zi;obtain⟨g2,gw,w2,ct,bB,bS,k7,_⟩:=run_append_lies (P:=prog) (w.alloc (.cells #[.slice (some ⟨g,0,none⟩) 512 c] 44)) 70 70 0 44 i0 (.slice none 0 0) 1 24 underlying70 hi iX eR eE rfl (by decide) v rs.length xs (bP h1 (λg hg=>by
   obtain⟨cur,hc⟩:=ay h1 hg;exact Below.heap_alloc _ _ _ (af hc))) ⟨w.heap.size,0,none⟩ 1 1 [.slice (some ⟨g,0,none⟩) 512 c] rfl (World.news_of_block (cs:= #[.slice (some ⟨g,0,none⟩) 512 c]) (t:=44) (fr:=(0,0)) (heap_alloc_new w _)) (by simp [Value.oneCell']) (by omega) (by unfold maxLen;omega) (by omega) (Nat.zero_le _) _ rfl
 have bw:=an w (.cells #[.slice (some ⟨g,0,none⟩) 512 c] 44);have hk:ad (λj=>v.ownBlock=some j) w w2:=⟨bS.os.trans bw.os,bS.tape.trans bw.tape,bS.output.trans bw.output,Nat.le_trans bw.size bS.size,λk hk hq=>(bS.block k (Nat.lt_of_lt_of_le hk bw.size) (λe=>hq e.symm)).trans (bw.block k hk)⟩;have hvl:xs.length=rs.length:=by have:=h1.1;simpa using this
 have NR:v.ownBlock=some g2\/w.heap.size<=g2:=k7.imp (λe=>e) (λe=>by simp at e;omega);refine⟨g2,gw,w2,ct,⟨xs ++ [.slice (some ⟨g,0,none⟩) 512 c],by rw [List.length_append];exact bB,λg' hq=>?_,λi hi=>?_⟩,hk,NR⟩
 .have eg:g2=g':=by simpa [Value.ownBlock] using hq
  subst eg;exact NR.imp (λe=>h2 _ e) (λe=>e)
 .have stay:∀j cj ys,ao w 5 j cj ys->ao w2 5 j cj ys:=λj cj ys hj=>by
   refine hj.agree (hk.block j hj.lt (λe=>?_));obtain⟨cur,hc⟩:=ay h1 e;obtain⟨cur',hb,_⟩:=hj;exact fH hb hc (by decide)
  by_cases e:i<rs.length
  .obtain⟨g',c',e1,e2,e3⟩:=h3 i e;refine⟨g',c',?_, .inl e2,?_⟩
   .rw [List.getElem?_append_left (by omega),e1]
   .rw [List.getElem_append_left e];exact stay _ _ _ e3
  .have LP:i=rs.length:=(by simp at hi;omega);subst LP;refine⟨g,c,?_, .inl hx,?_⟩
   .rw [List.getElem?_append_right (by omega),show rs.length-xs.length=0 by omega];rfl
   .simpa using stay _ _ _ hr
end
abbrev tY (M:MP) (v1 v2 v3 v4 v5 v6 v7:Value):Array Value:= #[.int .i64 (M.blocks:Int), .int .i64 (M.nodes:Int), .int .i64 ((2+M.nodes / 4:Nat):Int),v1,v2,v3,v4,v5,v6,v7, .int .i64 M.bad, .bool M.opn, .bool M.dead]
end
abbrev bt (g c:Nat):Value:= .slice (some ⟨g,0,none⟩) 4096 c
def NX (w:World) (X:Nat->Prop) (v:Value) (l:List Nat):Prop:=w.ownsRow 0 3 1 v l.length (l.map λ(i:Nat)=>Value.int .i64 (i:Int))/\∀g,v.ownBlock=some g->X g
structure Po (w:World) (X:Nat->Prop) (k g1 c1 g2 c2 g3 c3 g4 c4:Nat) (v5 v6 v7:Value) (M:MP):Prop where
 b:w.heap[k]? =some (.cells (tY M (bt g1 c1) (bt g2 c2) (bt g3 c3) (bt g4 c4) v5 v6 v7) 72 (0,0))
 xk:X k
 ob:BX w X g1 c1 M.ob
 on:BX w X g2 c2 M.on
 nb:BX w X g3 c3 M.nb
 nn:BX w X g4 c4 M.nn
 KZ:g1≠g2
 Pp:g1≠g3
 Pq:g1≠g4
 Pr:g2≠g3
 Ps:g2≠g4
 NS:g3≠g4
 eI:nG w X v5 M.eI
 raw:nG w X v6 M.raw
 put:NX w X v7 M.put
 own:M.opn=true->∀g,v5.ownBlock=some g->v6.ownBlock≠some g
theorem NX.nil (w:World) (X:Nat->Prop):NX w X (.slice none 0 0) []:=⟨World.ownsRow_nil _ _ _ _,λg h=>by simp [Value.ownBlock] at h⟩
theorem yK (a:Nat):∀c,nE (List.replicate 4096 false) a c=0
 |0=>rfl
 |c+1=>by
  show 2*nE (List.replicate 4096 false) a c+_=0;rw [yK a c];have:(List.replicate 4096 false).getD (a+7-c) false=false:=by
   simp only [List.getD,List.getElem?_replicate];split <;> rfl
  rw [this];rfl
theorem kx:dB (List.replicate 4096 false)=zs 512:=by
 unfold dB zs;apply List.ext_getElem
 .rw [List.length_map,List.length_range,List.length_replicate]
 .intro i h1 h2;rw [List.getElem_map,yK,List.getElem_replicate];rfl
theorem Yj (i:Nat):(i:Int).tdiv 4=((i / 4:Nat):Int):=by
 rw [Int.tdiv_eq_ediv_of_nonneg (by omega)];omega
theorem nG.bound {w:World} {X:Nat->Prop} {v:Value} {rs:List (List Int)} (h:nG w X v rs):nG w (λj=>X j/\j<w.heap.size) v rs:=by
 obtain⟨xs,h1,h2,h3⟩:=h;refine⟨xs,h1,λg hg=>⟨h2 g hg,?_⟩,λi hi=>?_⟩
 .obtain⟨cur,hc⟩:=ay h1 hg;exact af hc
 .obtain⟨g,c,e1,e2,e3⟩:=h3 i hi;exact⟨g,c,e1,⟨e2,e3.lt⟩,e3⟩
theorem nG.form {w:World} {X:Nat->Prop} {v:Value} {rs:List (List Int)} (h:nG w X v rs):∃a c,v= .slice a rs.length c:=by
 obtain⟨xs,⟨_,⟨rfl,h0⟩|⟨g,c,cur,rfl,_⟩⟩,_⟩:=h
 .exact⟨none,0,by rw [h0]⟩
 .exact⟨_,_,rfl⟩
theorem ao.dP {w w':World} {Z:Nat->Prop} {e:TypeId} {g c:Nat} {xs:List Value} (h:ao w e g c xs) (hk:ad Z w w') (hZ:∀g',Z g'->∃cur t fz,w.heap[g']? =some (.cells cur t fz)/\t≠e):ao w' e g c xs:=by
 refine h.agree (hk.block g h.lt (λhz=>?_));obtain⟨cur,t,fz,h1,h2⟩:=hZ g hz;obtain⟨cur',hb,_⟩:=h;exact fH h1 hb h2
theorem Kk (j:Nat):List.replicate j (zs 512) ++ [zs 512]=List.replicate (j+1) (zs 512):=by rw [List.replicate_succ']
def UH (w w':World) (blocks nodes:Nat) (e:Ending):Prop:=∃k g1 c1 g2 c2 g3 c3 g4 c4 v5,e= .returned (.pointer (some ⟨k,0,none⟩))/\Po w' (λj=>w.heap.size<=j/\j<w'.heap.size) k g1 c1 g2 c2 g3 c3 g4 c4 v5 (.slice none 0 0) (.slice none 0 0) ⟨blocks,nodes,List.replicate 4096 false,List.replicate 4096 false,List.replicate 4096 false,List.replicate 4096 false,List.replicate blocks (zs 512), [], [],0,false,false⟩/\Below w.heap.size w w'
theorem NT (w:World) (blocks nodes:Nat) (hb:blocks<=2048) (hn:nodes<=4096):Calls prog 16 #[.int .i64 (blocks:Int), .int .i64 (nodes:Int)] w λe w'=>UH w w' blocks nodes e:=by
 have e1:=Yj nodes;obtain⟨D,hD⟩:∃D:Nat,D=2+nodes / 4:=⟨_,rfl⟩;have e2:wrap64 (((nodes / 4:Nat):Int))=((nodes / 4:Nat):Int):=gI (by omega) (by omega);have e3:wrap64 (2+((nodes / 4:Nat):Int))=(D:Int):=(gI (by omega) (by omega)).trans (by omega);obtain⟨E,hE⟩:∃E:Nat,E=nodes / 4:=⟨_,rfl⟩;rw [<-hE] at e1 e2 e3;have HD:=yh hD;clear hD hE;have k1:=oq w;obtain⟨RR,CS⟩:∃RR,RR=List.replicate 4096 false:=⟨_,rfl⟩;rw [<-CS] at k1;have HR:=yh CS;have hRl:RR.length=4096:=by rw [CS,List.length_replicate]
 have NU:=yh hRl;have yH:Yh (∀w,Calls prog 30 #[] w λe w'=>∃v,e= .returned v/\BL w' w.heap.size v RR/\Below w.heap.size w w'):=λw=>by rw [CS];exact oq w
 clear CS hRl;go_enter func16,ntmps16;go_wp2_with fail;refine k1.mono ?_;rintro e w1 ⟨v1,rfl,dD,aq⟩;obtain⟨g1,c1,rfl,gm,cI⟩:=dD.row (by rw [NU.o];omega);rw [NU.o];have k2:=yH.o w1;clear k1 dD;go_wp2_with fail;refine k2.mono ?_;rintro e w2 ⟨v2,rfl,ir,aG⟩;obtain⟨g2,c2,rfl,dU,eB⟩:=ir.row (by rw [NU.o];omega);rw [NU.o];have k3:=yH.o w2;clear k2 ir;go_wp2_with fail;refine k3.mono ?_;rintro e w3 ⟨v3,rfl,kX,bH⟩;obtain⟨g3,c3,rfl,xA,rQ⟩:=kX.row (by rw [NU.o];omega);rw [NU.o];have k4:=yH.o w3;clear k3 kX;go_wp2_with fail;refine k4.mono ?_;rintro e w4 ⟨v4,rfl,p7,eK⟩;obtain⟨g4,c4,rfl,A7,C6⟩:=p7.row (by rw [NU.o];omega);rw [NU.o];have z1:=aq.size;have z2:=aG.size;have z3:=bH.size;have z4:=eK.size;have y1:=cI.lt;have y2:=eB.lt;have y3:=rQ.lt;have y4:=C6.lt;have s1:=((cI.agree (aG.block _ y1)).agree (bH.block _ (by omega))).agree (eK.block _ (by omega));have s2:=(eB.agree (bH.block _ y2)).agree (eK.block _ (by omega));have s3:=rQ.agree (eK.block _ y3);have mu:Below w.heap.size w w4:=aq.trans ((aG.mono z1).trans ((bH.mono (by omega)).trans (eK.mono (by omega))));have HS:=yh (And.intro s1 (And.intro s2 (And.intro s3 (And.intro C6 mu))));clear k4 p7 cI eB rQ C6 aq aG bH eK s1 s2 s3 mu;obtain⟨O5,VN⟩:∃O5:Obj,O5= .cells #[.int .i64 (blocks:Int), .int .i64 (nodes:Int), .int .i64 (D:Int),bt g1 c1,bt g2 c2,bt g3 c3,bt g4 c4, .slice none 0 0, .slice none 0 0, .slice none 0 0, .int .i64 0, .bool false, .bool false] 72 (0,0):=⟨_,rfl⟩;have bw:=heap_alloc_new w4 O5;have kj:=an w4 O5;have hzP:(w4.alloc O5).heap.size=w4.heap.size+1:=by rw [World.size_alloc]
 have k5:=yH.o (w4.alloc O5);rw [VN] at k5;go_wp2_with fail;refine k5.mono ?_;rintro e w5 ⟨v5,rfl,hl5,gc⟩;rw [<-VN] at gc hl5;obtain⟨g5,c5,rfl,Cb,Ic⟩:=hl5.row (by rw [NU.o];omega);rw [NU.o];have k6:=qp Ic NU.o;have z5:=gc.size;rw [hzP] at z5;have k9:=(gc.block _ (af (by rw [VN] at bw;rw [VN];exact bw))).trans bw;rw [VN] at k9;have pt:Yh (Below w4.heap.size w4 w5):=kj.trans (gc.mono (by omega));have mI:=yh k9;clear k5 hl5 Ic gc bw kj VN hzP k9 yH;go_wp2_with fail;refine k6.mono ?_;rintro e w6 ⟨v6,rfl,Ih,DZ⟩;obtain⟨az,cz,rfl,fy,VG,haz⟩:=Ih.src;rw [ck] at Ih fy;obtain⟨gz,rfl,_,hgz,Sl⟩:=Own.row Ih (by rw [ck];omega);rw [HR.o,kx] at Sl;rw [ck];have z6:=DZ.size;have rT:=pt.o.trans (DZ.mono (by omega));have Yk:=(DZ.block _ (af mI.o)).trans mI.o;have HT:Yh (ao w6 4 g1 c1 (fK RR)/\ao w6 4 g2 c2 (fK RR)/\ao w6 4 g3 c3 (fK RR)/\ao w6 4 g4 c4 (fK RR)/\ao w6 5 gz cz (bs (zs 512))/\Below w.heap.size w w6/\w6.heap[w4.heap.size]? =some (.cells #[.int .i64 (blocks:Int), .int .i64 (nodes:Int), .int .i64 (D:Int),bt g1 c1,bt g2 c2,bt g3 c3,bt g4 c4, .slice none 0 0, .slice none 0 0, .slice none 0 0, .int .i64 0, .bool false, .bool false] 72 (0,0))):=
    ⟨HS.o.1.agree (rT.block _ HS.o.1.lt),HS.o.2.1.agree (rT.block _ HS.o.2.1.lt),HS.o.2.2.1.agree (rT.block _ HS.o.2.2.1.lt),HS.o.2.2.2.1.agree (rT.block _ HS.o.2.2.2.1.lt),Sl,HS.o.2.2.2.2.trans (rT.mono (by omega)),Yk⟩
 clear k6 Ih fy Sl haz DZ rT Yk mI pt;go_wp2;go_loopw [7] (λiv wr=>∃(j:Nat) (v5:Value),j<=blocks/\iv= .int .i64 (j:Int)/\wr.heap[w4.heap.size]? =some (.cells #[.int .i64 (blocks:Int), .int .i64 (nodes:Int), .int .i64 (D:Int),bt g1 c1,bt g2 c2,bt g3 c3,bt g4 c4,v5, .slice none 0 0, .slice none 0 0, .int .i64 0, .bool false, .bool false] 72 (0,0))/\nG wr (λj=>w.heap.size<=j) v5 (List.replicate j (zs 512))/\ao wr 4 g1 c1 (fK RR)/\ao wr 4 g2 c2 (fK RR)/\ao wr 4 g3 c3 (fK RR)/\ao wr 4 g4 c4 (fK RR)/\ao wr 5 gz cz (bs (zs 512))/\Below w.heap.size w wr) (λiv _=>blocks-(intOf iv).toNat);case atStart=>exact⟨0,_,Nat.zero_le _,rfl,HT.o.2.2.2.2.2.2,nG.nil _ _,HT.o.1,HT.o.2.1,HT.o.2.2.1,HT.o.2.2.2.1,HT.o.2.2.2.2.1,HT.o.2.2.2.2.2.1⟩
 case round=>
  obtain⟨j,v5,hj,rfl,ia,tI,t1,t2,t3,t4,tz,lW⟩:=hrel;by_cases aS:j<blocks
  .have cH:(j:Int)<(blocks:Int):=(by omega);have acX:w.heap.size<=gz:=(by omega);obtain⟨gn,cn,w7,ct,AI,iu,NV⟩:=tI.app (l:=zs 512) acX tz (by rw [List.length_replicate];omega);obtain⟨a5,Lb,rfl⟩:=tI.form;rw [List.length_replicate] at ia tI ct AI iu NV;rw [Kk] at AI;have acY:=tI;obtain⟨xs0,VO,hX0,_⟩:=acY;have hZ:∀q,(Value.slice a5 j Lb).ownBlock=some q->∃cur t fz,wr.heap[q]? =some (.cells cur t fz)/\t=44:=λq hq=>by
    obtain⟨cur,hc⟩:=ay VO hq;exact⟨cur,_,_,hc,rfl⟩
   have hZ1:∀(e:TypeId),44≠e->∀q,(Value.slice a5 j Lb).ownBlock=some q->∃cur t fz,wr.heap[q]? =some (.cells cur t fz)/\t≠e:=λe he q hq=>by
    obtain⟨cur,t,fz,h1,h2⟩:=hZ q hq;exact⟨cur,t,fz,h1,by rw [h2];exact he⟩
   have rE:w7.heap[w4.heap.size]? =_:=(iu.block _ (af ia) (λhq=>by
    obtain⟨cur,t,fz,h1,h2⟩:=hZ _ hq;exact fH ia h1 (by rw [h2];decide))).trans ia
   have c7:wr.cell? ⟨w4.heap.size,7,none⟩=some (.slice a5 j Lb):=aa ia (j:=7) rfl;have d7:w7.cell? ⟨w4.heap.size,7,none⟩=some (.slice a5 j Lb):=aa rE (j:=7) rfl;have f7:=ae rE 7;have lN:=ad.setCell (F:=λq=>q=w4.heap.size) w7 (p:=⟨w4.heap.size,7,none⟩) rfl (.slice (some ⟨gn,0,none⟩) (j+1) cn);have Kl:(w7.setCell ⟨w4.heap.size,7,none⟩ (.slice (some ⟨gn,0,none⟩) (j+1) cn)).heap[w4.heap.size]? =some (.cells #[.int .i64 (blocks:Int), .int .i64 (nodes:Int), .int .i64 (D:Int),bt g1 c1,bt g2 c2,bt g3 c3,bt g4 c4, .slice (some ⟨gn,0,none⟩) (j+1) cn, .slice none 0 0, .slice none 0 0, .int .i64 0, .bool false, .bool false] 72 (0,0)):=(heap_setCell_same _ _ 7 _ _ _ rE).trans rfl;have hP:∀(e:TypeId),72≠e->∀q,q=w4.heap.size->∃cur t fz,w7.heap[q]? =some (.cells cur t fz)/\t≠e:=λe he q hq=>by subst hq;exact⟨_,_,_,rE,he⟩
   have mv:∀{e:TypeId} {g c:Nat} {xs:List Value},44≠e->72≠e->ao wr e g c xs->ao (w7.setCell ⟨w4.heap.size,7,none⟩ (.slice (some ⟨gn,0,none⟩) (j+1) cn)) e g c xs:=λhe hp hr=>(hr.dP iu (hZ1 _ he)).dP lN (hP _ hp);have HE:Yh (nG (w7.setCell ⟨w4.heap.size,7,none⟩ (.slice (some ⟨gn,0,none⟩) (j+1) cn)) (λj=>w.heap.size<=j) (.slice (some ⟨gn,0,none⟩) (j+1) cn) (List.replicate (j+1) (zs 512))/\ao (w7.setCell ⟨w4.heap.size,7,none⟩ (.slice (some ⟨gn,0,none⟩) (j+1) cn)) 4 g1 c1 (fK RR)/\ao (w7.setCell ⟨w4.heap.size,7,none⟩ (.slice (some ⟨gn,0,none⟩) (j+1) cn)) 4 g2 c2 (fK RR)/\ao (w7.setCell ⟨w4.heap.size,7,none⟩ (.slice (some ⟨gn,0,none⟩) (j+1) cn)) 4 g3 c3 (fK RR)/\ao (w7.setCell ⟨w4.heap.size,7,none⟩ (.slice (some ⟨gn,0,none⟩) (j+1) cn)) 4 g4 c4 (fK RR)/\ao (w7.setCell ⟨w4.heap.size,7,none⟩ (.slice (some ⟨gn,0,none⟩) (j+1) cn)) 5 gz cz (bs (zs 512))/\Below w.heap.size w (w7.setCell ⟨w4.heap.size,7,none⟩ (.slice (some ⟨gn,0,none⟩) (j+1) cn))):=
      ⟨(AI.ak lN (λq hq=>by subst hq;exact⟨_,_,_,rE,by decide,by decide⟩)).mono (λq hq=>by have:=lW.size;omega),mv (by decide) (by decide) t1,mv (by decide) (by decide) t2,mv (by decide) (by decide) t3,mv (by decide) (by decide) t4,mv (by decide) (by decide) tz,
       (lW.trans (iu.below (λq hq=>hX0 q hq) lW.size)).trans (lN.below (λq hq=>by omega) (by have:=lW.size;have:=iu.size;omega))⟩
   have HBK:=yh Kl;have ss:=yh ct;clear ia tI t1 t2 t3 t4 tz lW AI iu NV VO hX0 hZ hZ1 rE lN Kl hP mv ct HT HS;go_wp2_with (at_builtin;refine lE rfl _ _ 70 rfl (.slice a5 j Lb) (.slice (some ⟨wr.heap.size,0,none⟩) 1 1) _ rfl rfl ss.o ?_);go_roundw;case rel=>exact⟨j+1,_,by omega,by go_num,HBK.o,HE.o⟩
   case measure=>simp [intOf];omega
  .have cH:¬(j:Int)<(blocks:Int):=(by omega);obtain rfl:j=blocks:=(by omega);have HE:=yh (And.intro ia (And.intro tI (And.intro t1 (And.intro t2 (And.intro t3 (And.intro t4 lW))))));clear ia tI t1 t2 t3 t4 tz lW HT HS;go_wp2;go_ret;refine⟨w4.heap.size,g1,c1,g2,c2,g3,c3,g4,c4,v5,rfl,⟨?_,⟨by omega,af HE.o.1⟩,⟨⟨by omega,HE.o.2.2.1.lt⟩,?_,List.length_replicate ..⟩,⟨⟨by omega,HE.o.2.2.2.1.lt⟩,?_,List.length_replicate ..⟩,⟨⟨by omega,HE.o.2.2.2.2.1.lt⟩,?_,List.length_replicate ..⟩,⟨⟨by omega,HE.o.2.2.2.2.2.1.lt⟩,?_,List.length_replicate ..⟩,by omega,by omega,by omega,by omega,by omega,by omega,HE.o.2.1.bound,nG.nil _ _,NX.nil _ _,λh=>by cases h⟩,HE.o.2.2.2.2.2.2⟩
   .have:=HE.o.1;rw [HD.o] at this;exact this
   .have:=HE.o.2.2.1;rwa [HR.o] at this
   .have:=HE.o.2.2.2.1;rwa [HR.o] at this
   .have:=HE.o.2.2.2.2.1;rwa [HR.o] at this
   .have:=HE.o.2.2.2.2.2.1;rwa [HR.o] at this
end Go.Proofs.YtkiehemoiapkkaaGreat
