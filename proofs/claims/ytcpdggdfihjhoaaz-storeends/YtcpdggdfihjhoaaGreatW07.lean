import Derived.Test.YtcpdggdfihjhoaaGreatW01
import Derived.Test.YtcpdggdfihjhoaaGreatW03
import Derived.Test.YtcpdggdfihjhoaaGreatW04
import Derived.Test.YtcpdggdfihjhoaaGreatW05
import Derived.Test.YtcpdggdfihjhoaaGreatW06
import Derived.Scope
import Derived.WalkMore
import Derived.Laws.AppendOwn
import Derived.Lib.AppendStr
import Derived.OwnWalk
import Derived.Deep.RegionLaw
set_option maxRecDepth 20000
set_option maxHeartbeats 8000000
set_option linter.all false
namespace Go.Proofs.YtcpdggdfihjhoaaGreat
open Go.Proofs.Tryz
open Go.RowKit Go.Maps
variable {X ms ns:CM} {S:DS} {L:LG} {c c' cR j k n p s:Nat} {UK:Nat->List Int} {F F2 Z:Nat->Prop} {v:Value} {w:World}
section
abbrev rsC (r kl:Nat) (y:LY) (pv:Value) (hm:Nat) (nv:Value):Array Value:= #[pQ r,pQ kl,iV (y.log:Int),iV (y.home:Int),iV (y.blocks:Int),iV (y.nodes:Int),iV (y.data:Int),pv,iV (hm:Int),nv]
def lq (w:World) (k r kl:Nat) (y:LY) (pv:Value) (hm:Nat) (nv:Value):Prop:=w.heap[k]? =some (.cells (rsC r kl y pv hm nv) 129 (0,0))
abbrev rtC (k:Nat) (tv:Value) (T:TG):Array Value:= #[pQ k,tv, .bool T.ended,iV T.bad]
def nw (w:World) (t k:Nat) (tv:Value) (T:TG):Prop:=w.heap[t]? =some (.cells (rtC k tv T) 136 (0,0))
section
variable {w w':World} {F X:Nat->Prop} {r s k kl t hm:Nat} {S:DS} {y:LY} {L:LG} {G:SG} {T:TG} {pv nv tv:Value} {ps us:List (Nat×List Int)}
def lq.lt (h:lq w k r kl y pv hm nv):k<w.heap.size:=aq h
def lq.aw (h:lq w k r kl y pv hm nv) (a:aa Z w w') (b:¬Z k):lq w' k r kl y pv hm nv:=(a.block k h.lt b).trans h
def lq.later (h:lq w k r kl y pv hm nv) (a:bW w w'):lq w' k r kl y pv hm nv:=(a.block k h.lt).trans h
def lq.c0 (h:lq w k r kl y pv hm nv):w.cell? (aD k 0)=some (pQ r):=aM h
def lq.c1 (h:lq w k r kl y pv hm nv):w.cell? (aD k 1)=some (pQ kl):=bG h
def lq.c2 (h:lq w k r kl y pv hm nv):w.cell? (aD k 2)=some (iV (y.log:Int)):=bK h
def lq.c3 (h:lq w k r kl y pv hm nv):w.cell? (aD k 3)=some (iV (y.home:Int)):=fQ h
def lq.c4 (h:lq w k r kl y pv hm nv):w.cell? (aD k 4)=some (iV (y.blocks:Int)):=gH h
def lq.c5 (h:lq w k r kl y pv hm nv):w.cell? (aD k 5)=some (iV (y.nodes:Int)):=sk h
def lq.c6 (h:lq w k r kl y pv hm nv):w.cell? (aD k 6)=some (iV (y.data:Int)):=xp h
def lq.c7 (h:lq w k r kl y pv hm nv):w.cell? (aD k 7)=some pv:=rC h
def lq.c8 (h:lq w k r kl y pv hm nv):w.cell? (aD k 8)=some (iV (hm:Int)):=Dv h
def lq.c9 (h:lq w k r kl y pv hm nv):w.cell? (aD k 9)=some nv:=ahz h
def lq.fz (h:lq w k r kl y pv hm nv) (j:Nat):w.frozen? (aD k j)=false:=ae h j
def nw.lt (h:nw w t k tv T):t<w.heap.size:=aq h
def nw.aw (h:nw w t k tv T) (a:aa Z w w') (b:¬Z t):nw w' t k tv T:=(a.block t h.lt b).trans h
def nw.later (h:nw w t k tv T) (a:bW w w'):nw w' t k tv T:=(a.block t h.lt).trans h
def nw.c0 (h:nw w t k tv T):w.cell? (aD t 0)=some (pQ k):=aM h
def nw.c1 (h:nw w t k tv T):w.cell? (aD t 1)=some tv:=bG h
def nw.c2 (h:nw w t k tv T):w.cell? (aD t 2)=some (.bool T.ended):=bK h
def nw.c3 (h:nw w t k tv T):w.cell? (aD t 3)=some (iV T.bad):=fQ h
def nw.fz (h:nw w t k tv T) (j:Nat):w.frozen? (aD t j)=false:=ae h j
structure iL (w:World) (F X:Nat->Prop) (r s:Nat) (S:DS) (k kl:Nat) (G:SG) (pv:Value) (ps:List (Nat×List Int)) (hm:Nat) (nv:Value):Prop where
 st:lq w k r kl G.y pv hm nv
 lp:cK w kl r G.L
 pl:Pl w X pv ps
 xk:X k
 xl:X kl
 fM:∀g,X g->¬F g
 lt:∀g,X g->g<w.heap.size
 lk:G.L.Ok s
 bg:G.L.begun=true
 hs:G.y.home+G.y.blocks<=s
 lh:G.L.f+2+G.L.n<=G.y.home
 ov:G.ov=CM.bT [] (ps.drop hm)
 hm:hm<=ps.length
 kb:∀x∈ps,x.1<G.y.blocks
 un:G.L.dead S=false->∀b,b<G.y.blocks->CM.get G.ov b=none->∀c,jC ps b=some c->S.now (G.y.home+b)=c
structure oj (w:World) (X:Nat->Prop) (k t:Nat) (G:SG) (T:TG) (tv:Value) (us:List (Nat×List Int)):Prop where
 tx:nw w t k tv T
 xt:X t
 pl:Pl w X tv us
 nd:(us.map (·.1)).Nodup
 pu:T.ended=false->T.puts=CM.bT [] us
 kb:∀x∈us,x.1<G.y.blocks
 Em:us.length<=16
def iL.kne (h:iL w F X r s S k kl G pv ps hm nv):k≠kl:=λe=>by
 have a:=h.st;have b:=h.lp;unfold lq at a;unfold cK at b;rw [e,b] at a;simp at a
def iL.aw (h:iL w F X r s S k kl G pv ps hm nv) (b:aa Z w w') (a:∀g,X g->¬Z g):iL w' F X r s S k kl G pv ps hm nv:=
   ⟨h.st.aw b (a _ h.xk),h.lp.aw b (a _ h.xl),h.pl.aw b (λg e=>a _ (h.pl.row g e)) (λg _ _ d _=>a g d),h.xk,h.xl,h.fM,λg c=>i6 (h.lt g c) b.size,h.lk,h.bg,h.hs,h.lh,h.ov,h.hm,h.kb,h.un⟩
def iL.later (h:iL w F X r s S k kl G pv ps hm nv) (a:bW w w'):iL w' F X r s S k kl G pv ps hm nv:=h.aw (aa.ah (λ_=>False) a) (λ_ _ h=>h)
def oj.aw (h:oj w X k t G T tv us) (b:aa Z w w') (a:∀g,X g->¬Z g):oj w' X k t G T tv us:=
   ⟨h.tx.aw b (a _ h.xt),h.xt,h.pl.aw b (λg e=>a _ (h.pl.row g e)) (λg _ _ c _=>a g c),h.nd,h.pu,h.kb,h.Em⟩
def oj.later (h:oj w X k t G T tv us) (a:bW w w'):oj w' X k t G T tv us:=h.aw (aa.ah (λ_=>False) a) (λ_ _ h=>h)
def iL.block (h:iL w F X r s S k kl G pv ps hm nv) (hd:G.L.dead S=false) {b:Nat} (f:b<G.y.blocks):(jC ps b).getD (S.now (G.y.home+b))=G.block S b:=by
 have a:CM.get G.ov b=jC (ps.drop hm) b:=by rw [h.ov];exact ia _ _
 have e:jC ps b=(jC (ps.drop hm) b).or (jC (ps.take hm) b):=by rw [<-mc,List.take_append_drop]
 unfold SG.block;rw [a];cases d:jC (ps.drop hm) b with
 |some c=>rw [e,d];rfl
 |none=>
  cases g:jC ps b with
  |none=>rfl
  |some c=>exact(h.un hd b f (by rw [a,d]) c g).symm
def sT (hd:aC w F r s S) (h:lq w k r kl y pv hm nv) (a:cK w kl r L):
  Calls prog 128 #[pQ k] w λe w'=>e= .returned (.bool (L.dead S))/\bW w w':=by
 have b:=h.c1;go_in;go_wp2_with fail;refine(vw hd a).mono ?_;rintro e w1 ⟨rfl,ar⟩;go_wp2;go_ret;exact⟨rfl,ar⟩
def kt (hd:aC w F r s S) (h:iL w F X r s S k kl G pv ps hm nv) (b:nw w t k tv T):
  Calls prog 85 #[pQ t] w λe w'=>e= .returned (iV (T.state G S))/\bW w w':=by
 have a:=sT hd h.st h.lp;have f:=b.c0;unfold TG.state TG.bT;cases yI:G.L.dead S
 .rw [yI] at a;simp only [Bool.false_eq_true,if_false];cases d:T.ended
  .simp only [Bool.false_eq_true,if_false,ne_eq,not_true_eq_false];go_in;go_wp2_with fail;refine bN a λw1 ar=>?_;have c:=(b.later ar).c2;have g:=(b.later ar).c3;rw [d] at c;go_wp2;go_ret;exact⟨rfl,ar⟩
  .simp only [if_true,ne_eq,show¬(4:Int)=0 by decide,not_false_eq_true];go_in;go_wp2_with fail;refine bN a λw1 ar=>?_;have c:=(b.later ar).c2;rw [d] at c;go_wp2;go_ret;exact⟨rfl,ar⟩
 .rw [yI] at a;simp only [if_true,ne_eq,show¬(3:Int)=0 by decide,not_false_eq_true];go_in;go_wp2_with fail;refine bN a λw1 ar=>?_;go_wp2;go_ret;exact⟨rfl,ar⟩
def nw.bad (h:nw w t k tv T) (x:Int):nw (w.setCell ⟨t,3,none⟩ (.int .i64 x)) t k tv {T with bad:=x}:=
   (heap_setCell_same _ _ 3 _ _ _ h).trans (by simp)
def nw.end_ (h:nw w t k tv T):nw (w.setCell ⟨t,2,none⟩ (.bool true)) t k tv {T with ended:=true}:=
   (heap_setCell_same _ _ 2 _ _ _ h).trans (by simp)
def iL.adC (h:iL w F X r s S k kl G pv ps hm nv) (b:nw w t k tv T) (c:aa (λj=>j=t) w w'):iL w' F X r s S k kl G pv ps hm nv:=by
 refine⟨h.st.aw c (λe=>?_),h.lp.aw c (λe=>?_),h.pl.other b (by decide) (by decide) c,h.xk,h.xl,h.fM,λg d=>i6 (h.lt g d) c.size,h.lk,h.bg,h.hs,h.lh,h.ov,h.hm,h.kb,h.un⟩
 .have a:=h.st;unfold lq at a;unfold nw at b;rw [e,b] at a;simp at a
 .have a:=h.lp;unfold cK at a;unfold nw at b;rw [e,b] at a;simp at a
end
end
section
section
variable {w w':World} {F X:Nat->Prop} {r s k kl t hm:Nat} {S:DS} {y:LY} {L:LG} {G:SG} {T:TG} {pv nv tv:Value} {ps us:List (Nat×List Int)}
def KD (hd:aC w F r s S) (h:iL w F X r s S k kl G pv ps hm nv) (m:nw w t k tv T) (x:Int):
  Calls prog 87 #[pQ t,iV x] w λe w'=>e= .returned (iV (T.mI G S x).1)/\nw w' t k tv (T.mI G S x).2/\aa (λj=>j=t) w w':=by
 have f:=kt hd h m;have i:=m;obtain⟨R,a⟩:=bQ (T.mI G S x);rw [<-a];unfold TG.mI at a;generalize T.state G S=E at*;clear h m hd;by_cases q:E=0
 .have d:(E != 0)=false:=by rw [q];rfl
  rw [aB (λh=>h q)] at a;clear q;by_cases b:x=6\/x=50\/x=60\/x=61
  .rw [aG b] at a;have g:=a;clear a;rcases b with rfl|rfl|rfl|rfl;all_goals
    go_in;go_wp2_with fail;refine bN f λw1 ar=>?_;have wN:=i.later ar;obtain⟨n,z,l,c⟩:=cO wN.c3 (wN.fz 3) wN ar;clear f ar wN;go_wp2;go_ret;rw [g];exact⟨rfl,l.bad _,(aa.ah _ c).trans (aa.setCell (F:=λj=>j=t) _ (p:=(aD t 3)) rfl _) (λ_ h=> .inl h)⟩
  .rw [aB b] at a;have g:=a;clear a;have o:(x != 6)=true:=(by rw [gB];intro e;exact b (.inl e));have u:(x != 50)=true:=(by rw [gB];intro e;exact b (.inr (.inl e)));have v:(x != 60)=true:=(by rw [gB];intro e;exact b (.inr (.inr (.inl e))));have y:(x != 61)=true:=(by rw [gB];intro e;exact b (.inr (.inr (.inr e))));clear b;go_in;go_wp2_with fail;refine bN f λw1 ar=>?_;have c:=ar;clear f ar;go_wp2;go_ret;rw [g];exact⟨rfl,i.later c,aa.ah _ c⟩
 .have d:(E != 0)=true:=by rw [gB];exact q
  rw [aG q] at a;have g:=a;clear q a;go_in;go_wp2_with fail;refine bN f λw1 ar=>?_;have c:=ar;clear f ar;go_wp2;go_ret;rw [g];exact⟨rfl,i.later c,aa.ah _ c⟩
def KE (hd:aC w F r s S) (h:iL w F X r s S k kl G pv ps hm nv) (m:nw w t k tv T):
  Calls prog 91 #[pQ t] w λe w'=>e= .returned (iV (T.abort G S).1)/\nw w' t k tv (T.abort G S).2.1/\aa (λj=>j=t) w w':=by
 have b:=sT hd h.st h.lp;have n:=m.c0;have f:=m;obtain⟨R,a⟩:=bQ (T.abort G S);rw [<-a];unfold TG.abort TG.bT at a;clear h m hd;cases yI:G.L.dead S
 .rw [yI] at b a;simp only [Bool.false_eq_true,if_false] at a;cases g:T.ended
  .simp only [g,Bool.false_eq_true,if_false,ne_eq,not_true_eq_false] at a;have d:=a;clear a;go_in;go_wp2_with fail;refine bN b λw1 ar=>?_;have wN:=f.later ar;have l:=wN.c2;have o:=wN.fz 2;rw [g] at l;have i:=wN;have c:=ar;clear b ar wN;go_wp2;go_ret;rw [d];exact⟨rfl,i.end_,(aa.ah _ c).trans (aa.setCell (F:=λj=>j=t) _ (p:=(aD t 2)) rfl _) (λ_ h=> .inl h)⟩
  .simp only [g,if_true,ne_eq,show¬(4:Int)=0 by decide,not_false_eq_true] at a;have d:=a;clear a;go_in;go_wp2_with fail;refine bN b λw1 ar=>?_;have l:=(f.later ar).c2;rw [g] at l;have c:=ar;clear b ar;go_wp2;go_ret;rw [d];exact⟨rfl,f.later c,aa.ah _ c⟩
 .rw [yI] at b a;simp only [if_true,ne_eq,show¬(3:Int)=0 by decide,not_false_eq_true] at a;have d:=a;clear a;go_in;go_wp2_with fail;refine bN b λw1 ar=>?_;have c:=ar;clear b ar;go_wp2;go_ret;rw [d];exact⟨rfl,f.later c,aa.ah _ c⟩
def Ya (w:World) (nv:Value) (busy:Bool):Prop:=(nv= .pointer none/\busy=false)\/∃t,nv=pQ t/\t<w.heap.size/\w.cell? (aD t 2)=some (.bool (!busy))
def ym (w w':World) (k r kl:Nat) (y:LY) (pv:Value) (hm:Nat) (nv:Value) (code:Int) (e:Ending):Prop:=
 if code≠0 then e= .returned (.tuple #[.pointer none,iV code])/\lq w' k r kl y pv hm nv/\bW w w'
 else∃t,e= .returned (.tuple #[pQ t,iV 0])/\w.heap.size<=t/\nw w' t k (.slice none 0 0) ⟨[],0,false⟩/\lq w' k r kl y pv hm (pQ t)/\aa (λj=>j=k) w w'
def lq.now (h:lq w k r kl y pv hm nv) (v:Value):lq (w.setCell ⟨k,9,none⟩ v) k r kl y pv hm v:=
   (heap_setCell_same _ _ 9 _ _ _ h).trans (by simp)
def iF (b:bW w w') {t:Nat} (c:t<w.heap.size) (a:w.cell? (aD t j)=some v):w'.cell? (aD t j)=some v:=by
 have:=b.block t c;simp only [World.cell?] at a⊢;rw [this];exact a
def zV (hd:aC w F r s S) (h:lq w k r kl G.y pv hm nv) (n:cK w kl r G.L) (f:Ya w nv G.busy):
  Calls prog 74 #[pQ k] w λe w'=>ym w w' k r kl G.y pv hm nv (G.begin S) e:=by
 have a:=sT hd h n;have d:=h;have oo:=h.lt;unfold ym SG.begin;clear h n hd;cases yI:G.L.dead S
 .rw [yI] at a;simp only [Bool.false_eq_true,if_false];cases m:G.busy
  .simp only [Bool.false_eq_true,if_false,ne_eq,not_true_eq_false];rw [m] at f;rcases f with ⟨rfl,_⟩|⟨t,rfl,i,c⟩
   .go_in;go_wp2_with fail;refine bN a λw1 ar=>?_;have el:=d.later ar;have l:=el.c9;have dE:=ar.size;have bo:=el.later ((bi w1.heap.size w1).alloc (bS _) (.cells #[.pointer (some ⟨k,0,none⟩), .slice none 0 0, .bool false, .int .i64 0] 136));obtain⟨g,o,xC,b⟩:=cO bo.c9 (bo.fz 9) bo ar;clear a ar el bo;go_wp2;go_ret2;refine⟨w1.heap.size,rfl,by omega,?_,xC.now _,((aa.ah _ b).trans (aa.alloc (λj=>j=k) w1 _) (λ_ h=> .inl h)).trans (aa.setCell (F:=λj=>j=k) _ (p:=(aD k 9)) rfl _) (λ_ h=> .inl h)⟩;exact(Below.heap_setCell _ _ _ _ (by show w1.heap.size≠k;omega)).trans (heap_alloc_new _ _)
   .go_in;go_wp2_with fail;refine bN a λw1 ar=>?_;have el:=d.later ar;obtain⟨l,Wf,dE,bo⟩:=cO el.c9 (iF ar i c) ar.size (el.later ((bi w1.heap.size w1).alloc (bS _) (.cells #[.pointer (some ⟨k,0,none⟩), .slice none 0 0, .bool false, .int .i64 0] 136)));obtain⟨g,o,xC,b⟩:=cO bo.c9 (bo.fz 9) bo ar;clear a ar el bo c;go_wp2;go_ret2;refine⟨w1.heap.size,rfl,by omega,?_,xC.now _,((aa.ah _ b).trans (aa.alloc (λj=>j=k) w1 _) (λ_ h=> .inl h)).trans (aa.setCell (F:=λj=>j=k) _ (p:=(aD k 9)) rfl _) (λ_ h=> .inl h)⟩;exact(Below.heap_setCell _ _ _ _ (by show w1.heap.size≠k;omega)).trans (heap_alloc_new _ _)
  .simp only [if_true,ne_eq,show¬(5:Int)=0 by decide,not_false_eq_true];rw [m] at f;rcases f with ⟨_,h0⟩|⟨t,rfl,i,c⟩
   .cases h0
   .go_in;go_wp2_with fail;refine bN a λw1 ar=>?_;have el:=d.later ar;obtain⟨l,Wf,o7,b⟩:=cO el.c9 (iF ar i c) el ar;clear a ar el c;go_wp2;go_ret2;exact⟨rfl,o7,b⟩
 .rw [yI] at a;simp only [if_true,ne_eq,show¬(3:Int)=0 by decide,not_false_eq_true];go_in;go_wp2_with fail;refine bN a λw1 ar=>?_;have o7:=(d.later ar);have b:=ar;clear a ar;go_wp2;go_ret2;exact⟨rfl,o7,b⟩
def KF (hd:aC w F r s S) (h:iL w F X r s S k kl G pv ps hm nv) (aU:S.puts.length+1<=4000000000000):
  Calls prog 76 #[pQ k] w λe w'=>e= .returned (iV (G.L.sync S s).1)/\aC w' F r s (G.L.sync S s).2/\aa F w w':=by
 have b:=CT hd h.lp (h.fM _ h.xl) aU;have d:=h.st.c1;generalize G.L.sync S s=Z at*;go_in;go_wp2_with fail;refine pr b λw1 hd _ c=>?_;have a:=(aH hd c);go_wp2;go_ret;exact⟨rfl,a⟩
def Z2 (w':World) (F X:Nat->Prop) (l:List Int) (e:Ending):Prop:=∃g c,e= .returned (.slice (some (aD g 0)) 512 c)/\(X g\/F g)/\ay w' 5 g c (bs l)
def zW (hd:aC w F r s S) (h:iL w F X r s S k kl G pv ps hm nv) (I4:G.L.dead S=false) (b:Nat) (D:b<G.y.blocks) (aU:S.puts.length<=4000000000000) (Wg:ps.length<=4000000000000):
  Calls prog 136 #[pQ k,iV (b:Int)] w λe w'=>Z2 w' F X (G.block S b) e/\bW w w':=by
 have d:=q9 h.pl.pv b (by omega);have X9:=h.hs;have sv:=hd.ok.hi;obtain⟨f,lA,t,u,H,q⟩:=jF (jN (hd.later (ai (bi w.heap.size w))) (G.y.home+b) (by omega) (by omega)) (h.block I4 D) h.st.c0 h.st.c3 h.st.c7 RB;clear h hd;cases v:jC ps b with
 |some l=>
  rw [v] at d lA;have a:=lA;clear lA f;go_in;go_wp2_with fail;refine d.mono ?_;rintro e w1 ⟨n,o⟩;subst o;rcases n with ⟨h0,_⟩|⟨E,g,c,m,rfl,C,i⟩
  .cases h0
  cases m;have z:=i;clear d i;go_wp2;go_ret;refine⟨⟨g,c,rfl, .inl C,?_⟩,bi _ _⟩;rw [<-a];exact z
 |none=>
  rw [v] at d lA;have a:=lA;clear lA;have ul:((G.y.home+b:Nat):Int)=(G.y.home:Int)+(b:Int):=by omega
  rw [ul] at f;go_in;go_wp2_with fail;refine d.mono ?_;rintro e w1 ⟨n,o⟩;subst o;rcases n with ⟨_,rfl⟩|⟨E,g,c,m,_⟩
  .have yn:IntKind.i64.wrap ((G.y.home:Int)+(b:Int))=(G.y.home:Int)+(b:Int):=(by rw [IntKind.wrap_i64];omega);rw [<-yn] at f;have x:=f;clear d f yn;go_wp2_with fail;clear q;go_region_held3 (λw'=>w'.cell? (aD k 0)=some (pQ r)/\w'.cell? (aD k 3)=some (iV (G.y.home:Int)))
    (first|exact⟨t,u⟩|exact p)
      ((go_at_call 40;refine x.mono ?_;rintro e j ⟨g,c,rfl,A,i,dD⟩;have p:j.cell? (aD k 0)=some (pQ r)/\j.cell? (aD k 3)=some (iV (G.y.home:Int)):=(by rw [dD];exact⟨t,u⟩);have fy:ay j 5 g c (bs (S.now (G.y.home+b))):=(by rw [dD];exact i);have bd:bW w1 j:=(by rw [dD];exact ai (bi _ _));clear dD i))
   go_wp2;go_ret;refine⟨⟨g,c,rfl, .inr A,?_⟩,bd⟩;rw [<-a];exact fy
  .cases m
end
end
def vx.meets {m:Nat} {D:DataW Value} (h:vx w m ms D) {x:Int} {ca:Array Value} {b:Lit} {y:DataW Value} {j:List MemPlace} (gU:keyOf prog 3 (iV x)=some b) (g:Ra (.agg ca)=some (y,j)) (is:∀zd,D.atKey b zd=y):
  ∃(k:Nat) (c:List Int),x=(k:Int)/\b=kk k/\CM.get ms k=some c/\Value.agg ca=cV c:=by
 obtain⟨k,i,oo,f⟩:=h.met gU is;obtain⟨c,d⟩:=Option.isSome_iff_exists.1 f;refine⟨k,c,i,oo,d,?_⟩;have a:=(h.at' k c d).2 (.held (.bool false));rw [<-oo,is] at a;obtain⟨e,_⟩:=Ee g;rw [e] at a;exact uk a
def GQ:prog.eqGuardType prog.depth 101=false:=by kernel_rfl
def R7 (l m:List Int) (a:l.length=512) (b:m.length=512) (w:World) (x y:Operand):
    (do eqGuard .eql 101 x y (.agg (bs l).toArray) (.agg (bs m).toArray);binOp .eql 101 (.agg (bs l).toArray) (.agg (bs m).toArray)).run prog w= .ok (.bool (decide (l=m))) w:=by
 rw [Sem.run_bind,run_eqGuard_agg (P:=prog) w .eql 101 x y _ _ GQ,Result.andThen_ok];show (binOp .eql 101 (.agg (bs l).toArray) (.agg (bs m).toArray)).run prog w=_;unfold binOp Op.equal Op.maxDepth;rw [Sem.run_bind,JJ 512 9998 101 l m a b w underlying101,Result.andThen_ok,Sem.run_pure]
def R8 (l m:List Int) (a:l.length=512) (b:m.length=512) (w:World) (x y:Operand):
    (do eqGuard .neq 101 x y (.agg (bs l).toArray) (.agg (bs m).toArray);binOp .neq 101 (.agg (bs l).toArray) (.agg (bs m).toArray)).run prog w= .ok (.bool (!decide (l=m))) w:=by
 rw [Sem.run_bind,run_eqGuard_agg (P:=prog) w .neq 101 x y _ _ GQ,Result.andThen_ok];show (binOp .neq 101 (.agg (bs l).toArray) (.agg (bs m).toArray)).run prog w=_;unfold binOp Op.equal Op.maxDepth;rw [Sem.run_bind,JJ 512 9998 101 l m a b w underlying101,Result.andThen_ok,Sem.run_pure]
def rW {b:Array Oper} {rest:List Oper} {c:Oper} {a:Act} {Q:Exit->Act->World->Prop} (Gb:c.guard=none) (x y:Operand) (T:TypeId) (j:c.op= .binOp .eql 101 x y T)
    (A C:List Value) (l m:List Int) (d:A=bs l) (e:C=bs m) (n:a.eval x= .agg A.toArray) (o:a.eval y= .agg C.toArray) (g:l.length=512) (i:m.length=512) (v:Bool) (k:decide (l=m)=v)
    (h:wpList prog b Q rest (a.put c.dst (.bool v)) w):wpList prog b Q (c :: rest) a w:=
 wpList_plain Gb λK f=>by
  subst d e k;unfold Oper.wp execOp;simp only [j,n,o];have:=R7 l m g i w x y;rw [Sem.run_bind,this];exact f _ _ h
def rX {b:Array Oper} {rest:List Oper} {c:Oper} {a:Act} {Q:Exit->Act->World->Prop} (Gb:c.guard=none) (x y:Operand) (T:TypeId) (j:c.op= .binOp .neq 101 x y T)
    (A C:List Value) (l m:List Int) (d:A=bs l) (e:C=bs m) (n:a.eval x= .agg A.toArray) (o:a.eval y= .agg C.toArray) (g:l.length=512) (i:m.length=512) (v:Bool) (k:(!decide (l=m))=v)
    (h:wpList prog b Q rest (a.put c.dst (.bool v)) w):wpList prog b Q (c :: rest) a w:=
 wpList_plain Gb λK f=>by
  subst d e k;unfold Oper.wp execOp;simp only [j,n,o];have:=R8 l m g i w x y;rw [Sem.run_bind,this];exact f _ _ h
def TG.put (T:TG) (G:SG) (S:DS) (b:Int) (d:List Int):Int×TG:=
 if T.refusal G S b≠0 then (T.refusal G S b,T) else if d.length≠512 then (2,T) else if d=T.jZ G S b.toNat then (0,T)
 else if (CM.get T.puts b.toNat).isSome=false/\T.puts.length=16 then (50,{T with bad:=50}) else (0,{T with puts:=CM.put T.puts b.toNat d})
section
def zY (w w':World) (F:Nat->Prop) (p s c q t n:Nat) (S:DS) (r:Int×TG) (e:Ending):Prop:=
 e= .returned (iV r.1)/\w'.heap[t]? =some (.cells (BO q n r.2) 98 (0,0))/\Ch w' n r.2.puts/\B.ax w' F p s S c/\aa (λk=>F k\/k=t\/k=n) w w'
def KG (g:Option (List Int)) (a:∀c,g=some c->c.length=512):∃CL:List Value,adu g= .agg CL.toArray/\CL.length=512/\CL.toArray.all Value.oneCell'=true/\(prog.info? 101).map (·.size)=some CL.length:=by
 cases g with
 |none=>exact⟨bs (zs 512),rfl,by rw [bs,List.length_map,bH],all_oneCell_toArray (cF _),eQ (bH 512)⟩
 |some c=>exact⟨bs c,rfl,by rw [bs,List.length_map,a c rfl],all_oneCell_toArray (cF _),eQ (a c rfl)⟩
def En (w:World) {A:List Value} (a:A.length=512):bW w ((w.alloc (.cells bm 101)).setCells w.heap.size 0 A)/\(w.alloc (.cells bm 101)).there w.heap.size 0 A.length:=by
 have bL:(w.alloc (.cells bm 101)).heap[w.heap.size]? =some (.cells bm 101 (0,0)):=heap_alloc_new _ _;have bO:bW w (w.alloc (.cells bm 101)):=(bi _ w).alloc (bS _) _;refine⟨bO.trans ((aa.setCells (F:=λj=>j=w.heap.size) rfl A 0 _).below (λj b=>by omega) bO.size),?_⟩;rw [a];exact(cH bL cP)
section
variable {w w':World} {F:Nat->Prop} {p s cR q l m t n:Nat} {S:DS} {G:SG} {T:TG}
def Wh (h:it w F p s cR q l m S G) (W:mH w F q l m t n G T) (b:Int) (a:Option Addr) (x c:Nat) (d:List Int) (U:Src w a x d) (hx:x<=140737488355328) (xI:Bytes d) (aU:S.puts.length+1<=4000000000000):
  Calls prog 81 #[pQ t,iV b, .slice a x c] w λe w'=>zY w w' F p s (cR+1) q t n S (T.put G S b d) e:=by
 obtain⟨h1,HS,HT,UF,HX⟩:=eK (zT h W b) (yh h) (yh W) U.1 (yh U);have zZ:∀w1,bW w w1->∀z:Int,zY w w1 F p s (cR+1) q t n S (z,T) (.returned (iV z)):=λw1 ar z=>⟨rfl,(HT.o.later ar).tx,(HT.o.later ar).ch,(HS.o.d.later ar).le (by omega),aa.ah _ ar⟩;have Yb:=yh zZ;obtain⟨R,i⟩:=bQ (T.put G S b d);rw [<-i];unfold TG.put at i;go_in;go_wp2_with fail;by_cases k:T.refusal G S b=0
 .rw [aB (λh=>h k)] at i;obtain⟨r1,r2,r3,r4,r5⟩:=iW k;obtain⟨b,rfl⟩:∃b':Nat,b=(b':Int):=⟨b.toNat,by omega⟩;rw [k] at h1;rw [Int.toNat_natCast] at i;refine bN h1 λw1 ar=>?_;by_cases H:d.length=512
  .rw [aB (λh=>h H)] at i;have xJ:=yh i;clear i;obtain rfl:x=512:=(by omega);obtain⟨b0,o0,rfl⟩:=cX U (by omega);have hb:b<G.y.blocks:=(by omega);obtain⟨f,RR,Fv,hLt⟩:=cO (zU h W b hb) jm (vE r1) h.d.lt;have iK:=yh hLt;have Zx:=zQ (some (aD b0 o0)) c;have aW:=eQ H;have dL:=cF d;obtain⟨A,hA⟩:=bQ (bs d);rw [<-hA] at aW dL;have qv:A.length=512:=(by rw [hA,bs,List.length_map,H]);have bV:=all_oneCell_toArray dL;have I:=yh hA;have HR:=yh (aH r1 (aH r2 r3));clear h W U zZ k r1 r2 r3 r4 r5 dL hA hLt;have adE:w1.rangeAt b0 o0 A:=(by rw [I.o];exact nH (HX.o.later ar));have bw:=eU w1 H;rw [<-I.o] at bw;have eh:=bw.2.2;obtain⟨wB,Wi⟩:=bQ ((w1.alloc (.cells bm 101)).setCells w1.heap.size 0 A);have MD:bW w wB:=ar.trans (by rw [Wi];exact bw.2.1.mono ar.size);have aV:kf wB 101 w1.heap.size d:=(by rw [Wi];exact bw.1);obtain⟨dE,h2,K,adF,HwB⟩:=eK ar.size (GP (HS.o.later MD) (HT.o.later MD) b hb Fv aU) (yh MD) (yh aV) (yh Wi);clear h1 ar bw MD aV Wi
   go_upto_region 7 with (first|refine wpList_load_mid rfl 101 _ rfl b0 o0 rfl A _ adE underlying101 rfl aW ?_|refine wpList_store_mid rfl 101 _ _ rfl w1.heap.size 0 A.toArray rfl rfl ?h1 ?h2 bV ?_)
   case h1=>first|simpa using eh|(rw [qv] at eh;simpa using eh)
   case h2=>simpa using aW
   have aiF:=HwB.o;subst aiF;generalize Oc:(w1.alloc (.cells bm 101)).setCells w1.heap.size 0 A=wB at*;clear Oc adE eh HwB Zx;unfold cV at h2;obtain⟨C,hC⟩:=bQ (bs (T.jZ G S b));rw [<-hC] at h2;have Z:=yh hC;clear hC;go_wp2_with fail;refine fR h2 λu cI aY=>?_;obtain⟨ev,hzB,bw,l8,wO⟩:=eK aY.size adF.o.lt (eU u f) (eQ f) (cF (T.jZ G S b));rw [<-Z.o] at bw l8 wO;have Z3:C.length=512:=(by rw [Z.o,bs,List.length_map,f]);have GR:=all_oneCell_toArray wO;have eh:=bw.2.2;have jl:¬F w1.heap.size:=λhf=>by have:=iK.o _ hf;omega
   obtain⟨r,Wj⟩:=bQ ((u.alloc (.cells bm 101)).setCells u.heap.size 0 C);have Jh:bW u r:=(by rw [Wj];exact bw.2.1);have CV:kf r 101 u.heap.size (T.jZ G S b):=(by rw [Wj];exact bw.1);have Aa:=(adF.o.aw (aY.block _ hzB jl)).aw (Jh.block _ (by omega));have raA:r.rangeAt w1.heap.size 0 A:=λj v O=>by
    have:=Aa.news j v (by rw [<-I.o];exact O);rwa [aN] at this
   have Q:r.rangeAt u.heap.size 0 C:=λj v O=>by
    have:=CV.news j v (by rw [<-Z.o];exact O);rwa [aN] at this
   have hsD:=((HS.o.later K.o).asked cI aY).later Jh;have htD:=((HT.o.later K.o).asked aY).later Jh;have Yc:=yh (((aa.ah F K.o).trans aY (λ_ h=> .inl h)).trans (aa.ah (λ_=>False) Jh) (λ_ h=>h.elim):aa F w r);obtain⟨HsD,g,N,Y,hzD⟩:=eK (yh hsD) (yh htD) (yh Wj) (yh Aa) Jh.size;clear h2 cI aY bw wO Jh CV Aa hsD htD Wj;by_cases X:d=T.jZ G S b
   .have dv:=decide_eq_true X;have UG:=yh X;clear X;have Z4:=N.o;subst Z4;go_wp2_with (first|refine wpList_store_mid rfl 101 _ _ rfl u.heap.size 0 C.toArray rfl rfl ?h1 ?h2 GR ?_|refine wpList_load_mid rfl 101 _ rfl w1.heap.size 0 rfl A _ raA underlying101 rfl aW ?_|refine wpList_load_mid rfl 101 _ rfl u.heap.size 0 rfl C _ Q underlying101 rfl l8 ?_|refine rW rfl _ _ _ rfl A C d (T.jZ G S b) I.o Z.o rfl rfl H f true dv ?_);case h1=>first|simpa using eh|(rw [Z3] at eh;simpa using eh)
    case h2=>simpa using l8
    go_ret;rw [xJ.o,aG UG.o];exact⟨rfl,g.o.tx,g.o.ch,HsD.o.d,Yc.o.mono (λ_ h=> .inl h)⟩
   .have dv:=decide_eq_false X;have UG:=yh X;clear X;have Z4:=N.o;subst Z4
    go_upto_region 12 with (first|refine wpList_store_mid rfl 101 _ _ rfl u.heap.size 0 C.toArray rfl rfl ?h3 ?h4 GR ?_|refine wpList_load_mid rfl 101 _ rfl w1.heap.size 0 rfl A _ raA underlying101 rfl aW ?_|refine wpList_load_mid rfl 101 _ rfl u.heap.size 0 rfl C _ Q underlying101 rfl l8 ?_|refine rW rfl _ _ _ rfl A C d (T.jZ G S b) I.o Z.o rfl rfl H f false dv ?_)
    case h3=>first|simpa using eh|(rw [Z3] at eh;simpa using eh)
    case h4=>simpa using l8
    generalize Oc:(u.alloc (.cells bm 101)).setCells u.heap.size 0 C=r at*;clear Oc eh N Q;have bd:b<2048:=(by have:=HS.o.hs;have:=HS.o.d.ok.hi;omega);have gV:=g.o.ch.look b bd;obtain⟨CL,hcv,adH,adI,Z5⟩:=KG (CM.get T.puts b) (λc hc=>(g.o.ch.len _ (CM.get_mem hc)).2.1);rw [hcv] at gV;have bw:=En r adH;have eh:=bw.2;have c1:=g.o.c1;obtain⟨J,P⟩:=bQ ((r.alloc (.cells bm 101)).setCells r.heap.size 0 CL);have D:bW r J:=(by rw [P];exact bw.1);obtain⟨M,ME,Yd,L,HwE⟩:=U3 (HsD.o.later D) (g.o.later D) (Yc.o.trans (aa.ah (λ_=>False) D) (λ_ h=>h.elim):aa F w J) (Y.o.aw (D.block _ (aq Y.o)):kf J 101 w1.heap.size d) P;clear bw D P hcv
    go_upto_region 13 with (refine wpList_store_mid rfl 101 _ _ rfl r.heap.size 0 CL.toArray rfl rfl ?h5 ?h6 adI ?_)
    case h5=>first|simpa using eh|(rw [adH] at eh;simpa using eh)
    case h6=>simpa using Z5
    have aiL:=HwE.o;subst aiL;generalize Oc:(r.alloc (.cells bm 101)).setCells r.heap.size 0 CL=J at*;clear Oc eh HwE gV c1;have c1:=ME.o.c1;have alY:=λty=>ME.o.ch.length ty;by_cases Z6:(CM.get T.puts b).isSome=false/\T.puts.length=16
    .have ka:=Z6.1;have kb:((T.puts.length:Int) == 16)=true:=(by rw [beq_iff_eq];omega);have h3:=CU M.o ME.o 50;have e3:T.mI G S 50=(50,{T with bad:=50}):=by
      unfold TG.mI TG.state TG.bT;rw [HR.o.1,HR.o.2.1,HR.o.2.2];simp
     rw [e3] at h3;have CG:=yh Z6;clear Z6 e3;go_wp2_with fail;refine fR h3 λw4 h4 h5=>?_;have HN:Yh (zY w w4 F p s (cR+1) q t n S (50,{T with bad:=50}) (.returned (iV 50))):=⟨rfl,h4,ME.o.ch.aw h5 (λe=>ME.o.tn e.symm),M.o.d.aw h5 (λk hk e=>ME.o.nt (e▸hk)),(Yd.o.mono (λ_ h=> .inl h)).trans h5 (λ_ e=> .inl (.inr (.inl e)))⟩;clear h3 h4 h5;go_wp2;go_ret;rw [xJ.o,aB UG.o,aG CG.o];exact HN.o
    .have Z7:=ME.o.ch.later (ai (bi _ _));obtain⟨wU,bD,nr,BP,Of⟩:=Z7.store b bd d H xI;have R9:(Instr.mapUpdate 93 (.map (some n)) (iV (b:Int)) (.agg A.toArray)).run prog J.drew= .ok () wU:=(by rw [I.o];exact bD);have raE:J.rangeAt w1.heap.size 0 A:=λj v O=>by
      have:=L.o.news j v (by rw [<-I.o];exact O);rwa [aN] at this
     have KH:=(aa.ah (λk=>k=n) (ai (bi J.heap.size J))).trans BP (λ_ h=> .inl h);have HN:Yh (zY w wU F p s (cR+1) q t n S (0,{T with puts:=CM.put T.puts b d}) (.returned (iV 0))):=⟨rfl,(KH.block t (aq ME.o.tx) ME.o.tn).trans ME.o.tx,nr,M.o.d.aw KH (λk hk e=>ME.o.nn (e▸hk)),(Yd.o.mono (λ_ h=> .inl h)).trans KH (λ_ e=> .inl (.inr (.inr e)))⟩;have CG:=yh Z6;have HC1:=yh c1;have ao2:=underlying101;have aiM:w1.heap.size≠n:=(by have:=HT.o.ch.lt;omega);have Ye:=L.o.aw (KH.block _ (aq L.o) aiM);have Z8:Yh (wU.cell? (aD t 1)=some (.map (some n))/\wU.rangeAt w1.heap.size 0 A):=⟨bG ((KH.block t (aq ME.o.tx) ME.o.tn).trans ME.o.tx),λj v O=>by
      have:=Ye.news j v (by rw [<-I.o];exact O);rwa [aN] at this⟩
     clear Ye;cases hg:(CM.get T.puts b).isSome
     .have kb:((T.puts.length:Int) == 16)=false:=by
       rw [fJ];intro e;exact Z6 ⟨hg,by omega⟩
      clear Z6 Z7 bD nr BP KH;go_wp2_with fail;go_region_held3 (λw'=>w'.cell? (aD t 1)=some (.map (some n))/\w'.rangeAt w1.heap.size 0 A) (first|exact⟨HC1.o,raE⟩|exact Z8.o) (fail);go_wp2;go_ret;rw [xJ.o,aB UG.o,aB CG.o];exact HN.o
     .clear Z6 Z7 bD nr BP KH;go_wp2_with fail;go_region_held3 (λw'=>w'.cell? (aD t 1)=some (.map (some n))/\w'.rangeAt w1.heap.size 0 A) (first|exact⟨HC1.o,raE⟩|exact Z8.o) (fail);go_wp2;go_ret;rw [xJ.o,aB UG.o,aB CG.o];exact HN.o
  .rw [aG H] at i;have xJ:=yh i;clear i;have dx:((x:Int) != 512)=true:=(by rw [gB];omega);clear h W U zZ k r1 r2 r3 r4 r5 H;have HB:=yh ar;clear h1 ar;go_wp2;go_ret;rw [xJ.o];exact Yb.o _ HB.o 2
 .rw [aG k] at i;have xJ:=yh i;clear i;have dk:(T.refusal G S b != 0)=true:=by rw [gB];exact k
  clear h W U zZ k;generalize T.refusal G S b=E at*;refine bN h1 λw1 ar=>?_;have HB:=yh ar;clear h1 ar;go_wp2;go_ret;rw [xJ.o];exact Yb.o _ HB.o E
end
end
def KI (ms ns X:CM) (left:Lit->Bool):Prop:=∀k,CM.get X k=if left (kk k)=false/\(CM.get ns k).isSome=true then CM.get ns k else CM.get ms k
def Og {m:Nat} {D:DataW Value} (h:Ch w m ms) (t:vx w n ns D) (q:m≠n):
  Calls prog 175 #[.map (some m), .map (some n)] w λe w'=>e= .returned (.tuple #[])/\Ch w' m (CM.bT ms ns)/\aa (λk=>k=m) w w':=by
 obtain⟨Cc,RR,H,i⟩:=cO h.lt jm t h;clear h t;go_in;go_wp2_with (at_range;refine wpList_range_own _ rfl _ 93 rfl 3 101 gk underlying93 Ra n ns.length D rfl H.own ?_;intro w0 pD uU yD;go_frame);have fO:=(bi _ w).grown uU (bS _) (λj b=>by cases b);clear uU;go_loopw [4] (λ_ wr=>∃(left:Lit->Bool) (em:Nat) (X:CM),wr.ranges prog 3 Ra n w.heap.size ns.length D left em/\Ch wr m X/\KI ms ns X left/\aa (λk=>k=m) w wr/\w.heap.size+1<=wr.heap.size)
    (λ_ wr=>wr.rangeLeft n w.heap.size)
 case atStart=>
  refine⟨_,_,ms,pD,i.later fO,λk=>?_,aa.ah _ fO,by omega⟩;rw [aB];rintro ⟨h1,h2⟩;obtain⟨c,u⟩:=Option.isSome_iff_exists.1 h2;rw [(H.at' k c u).1] at h1;cases h1
 case round=>
  clear pD fO yD;obtain⟨left,em,X,mR,a,PF,eZ,ee⟩:=hrel;go_wp2_with (at_next;refine wpList_next_ranges _ rfl _ rfl 3 gk Ra (Value.int .i64) Value.agg (λy C gU=>by obtain⟨x,rfl,_⟩:=Maps.keyOf_int_inv underlying3 gU;exact⟨x,rfl⟩) Kw n w.heap.size ns.length _ _ _ rfl mR ?_ ?_)
  .intro _ we;have p:X=CM.bT ms ns:=by
    refine CM.ext a.ok (CM.qZ i.ok ns) (λk=>?_);rw [PF k,CM.Rx i.ok k H.ok,we];cases E:CM.get ns k with
    |none=>simp
    |some c=>simp
   have l:=(aH (p▸a) eZ);clear mR a PF eZ H i;go_wp2
   go_end0
   exact⟨rfl,l⟩
  .intro x ca C F I d pE gU A7 o is pf bq fZ bo I2;obtain⟨k,c,rfl,rfl,Yf,tI⟩:=H.meets gU o is;have nR:=H.len _ (CM.get_mem Yf);injection tI with tI;have bw:=eU d nR.2.1;have aW:=eQ nR.2.1;have dL:=cF c;obtain⟨A,f⟩:=bQ (bs c);rw [<-f] at tI bw aW dL;have qv:A.length=512:=(by rw [f,bs,List.length_map,nR.2.1]);have bV:=all_oneCell_toArray dL;subst tI;have MF:=a.agree (fZ.block m a.lt (λe=>by injection e with e;omega));have Sa:=eZ.trans (G:=λj=>j=w.heap.size) ⟨fZ.os,fZ.tape,fZ.output,fZ.size,λj b dM=>fZ.block j b (λe=>dM (by injection e))⟩ (λj e=> .inr (by omega));obtain⟨s,Fx⟩:=bQ ((d.alloc (.cells bm 101)).setCells d.heap.size 0 A);have eh:=bw.2.2;have wL:bW d s:=(by rw [Fx];exact bw.2.1);have r:s.rangeAt d.heap.size 0 A:=λj v o=>by
    rw [Fx];have:=bw.1.news j v (by rw [<-f];exact o);rwa [aN] at this
   obtain⟨g,bD,nr,BP,Of⟩:=(MF.later wL).store k nR.1 c nR.2.1 nR.2.2;have R9:(Instr.mapUpdate 93 (.map (some m)) (iV (k:Int)) (.agg A.toArray)).run prog s= .ok () g:=(by rw [f];exact bD);have adL:=(pf.kept (row:=none) ⟨wL.os,wL.tape,wL.output,wL.size,λj b _=>wL.block j b⟩ (λe=>by cases e) (λe=>by cases e)).kept (row:=some m) ⟨BP.os,BP.tape,BP.output,BP.size,λj b dM=>BP.block j b (λe=>dM (by rw [e]))⟩ (λe=>q (by injection e with e;exact e.symm)) (λe=>by injection e with e;omega);have Sb:KI ms ns (CM.put X k c) (λz=>left z && !z.sameKey (kk k)):=λj=>by
    show CM.get (CM.put X k c) j=if (left (kk j) && !(kk j).sameKey (kk k))=false/\(CM.get ns j).isSome=true then CM.get ns j else CM.get ms j;rw [CM.kE _ _ _ _ a.ok,PF j,lE];by_cases e:j=k
    .subst e;simp [Yf]
    .simp [e]
   have l:(g.ranges prog 3 Ra n w.heap.size ns.length D (λz=>left z && !z.sameKey (kk k)) pE/\Ch g m (CM.put X k c)/\KI ms ns (CM.put X k c) (λz=>left z && !z.sameKey (kk k))/\aa (λk=>k=m) w g/\w.heap.size+1<=g.heap.size):=⟨adL,nr,Sb,(Sa.trans (aa.ah (λ_=>False) wL) (λ_ h=>h.elim)).trans BP (λ_ h=> .inl h),by have:=wL.size;omega⟩;have ZU:=Fx;clear gU o is bo fZ a MF PF Sb eZ Sa adL bD nr BP Of wL f dL Yf pf bw nR;subst Fx;generalize bm=Z at*;go_wp2_with (first|refine wpList_store_mid rfl 101 _ _ rfl d.heap.size 0 A.toArray rfl rfl ?h1 ?h2 bV ?_|refine wpList_load_mid rfl 101 _ rfl d.heap.size 0 rfl A _ r underlying101 rfl aW ?_);case h1=>first|simpa using eh|(rw [qv] at eh;simpa using eh)
   go_roundw;case rel=>exact⟨_,pE,_,l⟩
   case measure=>rw [l.1.left_eq,mR.left_eq];exact bq
def CW {m:Nat} (h:Ch w m ms) (b:Ch w n ns) (a:m≠n):
  Calls prog 175 #[.map (some m), .map (some n)] w λe w'=>e= .returned (.tuple #[])/\Ch w' m (CM.bT ms ns)/\aa (λk=>k=m) w w':=by
 obtain⟨D,b⟩:=b;exact Og h b a
section
namespace B
section
variable {w:World} {F:Nat->Prop} {p s l cR:Nat} {S:DS} {L:LG}
def Sc (h:ax w F p s S cR) (A:cW w l p L) (a:L.Ok s) (m:¬F l) (dC:S.fL) (aU:S.puts.length+3<=4000000000000):
  Calls prog 131 #[pQ l] w λe w'=>e= .returned (iV (L.trim S s).1)/\ax w' (more F w w') p s (L.trim S s).2.1 (cR+2)/\cW w' l p (L.trim S s).2.2/\aa (λk=>F k\/k=l) w w':=by
 obtain⟨i,iK,bq,R,jl⟩:=eK (zP h A m (by omega)) h.lt A.lt a.s a.n1;have x:=λ(M:(L.sync S s).1=0)=>a.hb (J6 M);have v:=a.ep;have Q:=nK L S s;have adN:=p7 dC L s;unfold LG.trim;generalize L.sync S s=Z at*;have D:=(λ(N:Z.1=0) b (cI:ax b F p s Z.2 cR)=>Kz cI L.f L.n L.ep L.head v (x N) (by omega) (by omega) (adN.now _) (adN.now _));by_cases c:Z.1=0
 .rw [aB (λh=>h c)];have J:(Z.1 == 0)=true:=by rw [beq_iff_eq];exact c
  have y:=(D c);by_cases C:L.tail=L.head
  .rw [aG C];have K:((L.tail:Int) == (L.head:Int))=true:=(by rw [beq_iff_eq];omega);go_in;go_wp2_with fail;refine pr i λw1 iN cu ff=>?_;have z:=cu.c6;have g:=cu.c7;go_wp2_with fail;go_quiet (fail);go_wp2;go_ret;exact⟨rfl,(λj=>aH (((iN.later (below_drewN (bi _ _) j)).more (w:=w)).le (by omega:cR<=cR+2)) (aH (cu.later (below_drewN (bi _ _) j)) ((ff.mono (λ_ h=> .inl h)).trans (aa.ah (λ_=>False) (below_drewN (bi w1.heap.size w1) j)) (λ_ h=>h.elim):aa (λk=>F k\/k=l) w (w1.drewN j)))) _⟩
  .rw [aB C];have K:((L.tail:Int) == (L.head:Int))=false:=(by rw [fJ];omega);generalize P:cZ Z.2 s L.f ((L.ep:Int)*4294967296+(L.head:Int))=Y at*;by_cases k:Y.1=0
   .rw [aB (λh=>h k)];have d:(Y.1 == 0)=true:=(by rw [beq_iff_eq];exact k);go_in;go_wp2_with fail;refine pr i λw1 iN cu ff=>?_;obtain⟨z,g,q,r,t,u⟩:=jF cu.c6 cu.c7 cu.c0 cu.c1 cu.c2 cu.c5;go_wp2_with fail;go_quiet (fail);go_wp2_with fail;go_region_held3 (λw'=>w'.cell? (aD l 0)=some (pQ p)/\w'.cell? (aD l 1)=some (iV (L.f:Int))/\w'.cell? (aD l 2)=some (iV (L.n:Int))/\w'.cell? (aD l 5)=some (iV (L.ep:Int))/\w'.cell? (aD l 7)=some (iV (L.head:Int)))
     (first|exact⟨q,r,t,u,g⟩|exact⟨jf.c0,jf.c1,jf.c2,jf.c5,jf.c7⟩)
       ((go_at_call 105;refine(y _ (iN.later (below_drewN (bi _ _) (nq+1)))).mono ?_;rintro e b ⟨rfl,cI,aY⟩;have aZ:=ff.trans (aa.ah (λ_=>False) (below_drewN (bi w1.heap.size w1) (nq+1))) (λ_ h=>h.elim);have ip:=cu.later (below_drewN (bi w1.heap.size w1) (nq+1));have jf:=ip.aw aY m))
    generalize w1.drewN (nq+1)=o at*;obtain⟨lB,ev,O,H,I⟩:=eK aZ.size aY.size (jf.fz 6) jf.c6 jf.c7;have dM:∀k,more F o b k->¬k=l:=λk a e=>by
     subst e;rcases a with a|a
     .exact m a
     .omega
    have ee:(b.setCell ⟨l,6,none⟩ (.int .i64 (L.head:Int))).heap.size=b.heap.size:=(by simp [World.setCell]);have E:=(aH (((cI.aw (aL (F:=λk=>k=l) b rfl 6 (iV (L.head:Int))) dM).mono (G:=more F w (b.setCell ⟨l,6,none⟩ (.int .i64 (L.head:Int)))) (λk a=>by
      rcases a with a|a
      .exact .inl a
      .exact .inr ⟨by omega,by rw [ee];exact a.2⟩) (cJ (F:=F) (w:=w) iK (by rw [ee];omega)))) (aH jf.trimmed (((aZ.mono (λ_ h=> .inl h):aa (λk=>F k\/k=l) w o).trans aY (λ_ h=> .inl (.inl h))).trans (aL (F:=λk=>k=l) b rfl 6 (iV (L.head:Int))) (λ_ h=> .inl (.inr h)))))
    go_wp2;go_ret;exact⟨rfl,E⟩
   .rw [aG k];have d:(Y.1 == 0)=false:=(by rw [fJ];exact k);go_in;go_wp2_with fail;refine pr i λw1 iN cu ff=>?_;obtain⟨z,g,q,r,t,u⟩:=jF cu.c6 cu.c7 cu.c0 cu.c1 cu.c2 cu.c5;go_wp2_with fail;go_quiet (fail);go_wp2_with fail;go_region_held3 (λw'=>w'.cell? (aD l 0)=some (pQ p)/\w'.cell? (aD l 1)=some (iV (L.f:Int))/\w'.cell? (aD l 2)=some (iV (L.n:Int))/\w'.cell? (aD l 5)=some (iV (L.ep:Int))/\w'.cell? (aD l 7)=some (iV (L.head:Int)))
     (first|exact⟨q,r,t,u,g⟩|exact⟨jf.c0,jf.c1,jf.c2,jf.c5,jf.c7⟩)
       ((go_at_call 105;refine(y _ (iN.later (below_drewN (bi _ _) (nq+1)))).mono ?_;rintro e b ⟨rfl,cI,aY⟩;have aZ:=ff.trans (aa.ah (λ_=>False) (below_drewN (bi w1.heap.size w1) (nq+1))) (λ_ h=>h.elim);have ip:=cu.later (below_drewN (bi w1.heap.size w1) (nq+1));have jf:=ip.aw aY m))
    generalize w1.drewN (nq+1)=o at*;go_wp2;go_ret;exact⟨rfl,(aH (cI.from iK aZ.size aY.size) (aH jf ((aZ.mono (λ_ h=> .inl h):aa (λk=>F k\/k=l) w o).trans aY (λ_ h=> .inl (.inl h)))))⟩
 .rw [aG c];have J:(Z.1 == 0)=false:=by rw [fJ];exact c
  go_in;go_wp2_with fail;refine pr i λw1 iN cu ff=>?_;go_wp2;go_ret;exact⟨rfl,aH ((iN.more (w:=w)).le (by omega:cR<=cR+2)) (aH cu (ff.mono (λ_ h=> .inl h):aa (λk=>F k\/k=l) w w1))⟩
end
end B
end
section
def ku {S:DS} (b:S.fL) (s h:Nat):∀{ms:CM},(∀q∈ms,Bytes q.2)->(aE S s h ms).2.fL:=λ{ms} c=>by
 induction ms generalizing S with
 |nil=>exact b
 |cons q f e=>
  rw [jA];have a:(S.wr s ((h+q.1:Nat):Int) 512 q.2).2.fL:=b.wr s _ _ (c q List.mem_cons_self);split
  .exact a
  .exact e a (λx d=>c x (List.mem_cons_of_mem _ d))
def Eo {s:Nat} (h:L.Ok s) (S:DS):(L.trim S s).2.2.Ok s/\(L.trim S s).2.2.begun=L.begun:=by
 unfold LG.trim;split
 .exact⟨h,rfl⟩
 .split
  .exact⟨h,rfl⟩
  .split
   .exact⟨h,rfl⟩
   .exact⟨⟨h.s,h.n1,h.n2,h.ep,h.top,bS _,Nat.le_add_right _ _,h.hi,h.hb⟩,rfl⟩
section
variable {w w':World} {F:Nat->Prop} {p s cR q l m t n:Nat} {S:DS} {G:SG} {T:TG}
def it.GS {S':DS} {a:LG} {PG:CM} (h:it w F p s cR q l m S G) (hd:B.ax w' (more F w w') p s S' c') (bw:np w' q p l m G.y G.busy) (b:cW w' l p a) (nr:Ch w' m PG) (A7:a.Ok s) (vF:a.begun=true) (ph:∀x∈PG,x.1<G.y.blocks):it w' (more F w w') p s c' q l m S' {G with L:=a,ov:=PG}:=by
 obtain⟨c,d,f⟩:=kH h.st.lt h.lp.lt h.ch.lt;exact⟨hd,bw,b,nr,λe=>e.elim h.nq (λe=>by omega),λe=>e.elim h.nl (λe=>by omega),λe=>e.elim h.nm (λe=>by omega),h.ql,h.qm,h.lm,A7,vF,h.hs,ph⟩
def CX (h:it w F p s cR q l m S G) (dC:S.fL) (aU:S.puts.length+4000<=4000000000000):
  Calls prog 77 #[pQ q] w λe w'=>e= .returned (iV (G.check S s).1)/\it w' (more F w w') p s (cR+2) q l m (G.check S s).2.1 (G.check S s).2.2/\aa (λk=>F k\/k=l\/k=m) w w':=by
 obtain⟨I,N,t,lC,M⟩:=eK (B.zP h.d h.lp h.nl (by omega)) (nK G.L S s) (p7 dC G.L s) h.ch.small (eF (G.L.sync S s).2 s G.y.home G.ov);have r:=ku t s G.y.home (λx g=>(h.ch.len x g).2.2);have Z9:=Eo h.lk (aE (G.L.sync S s).2 s G.y.home G.ov).2;have X9:=h.hs;have J:=λ(w1:World) (iN:B.ax w1 F p s (G.L.sync S s).2 cR) (el:np w1 q p l m G.y G.busy) (Jv:Ch w1 m G.ov)=>rU iN el Jv h.nq h.nm (λx g=>by have:=h.kb x g;omega) (by omega);have K:=λ(w1:World) (z:Nat->Prop) (iN:B.ax w1 z p s (aE (G.L.sync S s).2 s G.y.home G.ov).2 cR) (cu:cW w1 l p G.L) (jl:¬z l)=>B.Sc iN cu h.lk jl r (by omega);have U:=h.st.c1;have H:=h;obtain⟨R,b⟩:=bQ (G.check S s);rw [<-b];unfold SG.check at b;generalize G.L.sync S s=Z at*;generalize aE Z.2 s G.y.home G.ov=Y at*;generalize G.L.trim Y.2 s=X at*;obtain⟨iK,Bc,KA,xU,Q,P,Wk⟩:=nA h.d.lt h.ql h.qm h.lm h.st.lt h.lp.lt h.ch.lt;go_in;go_wp2_with fail;refine pr I λw1 iN cu ff=>?_;by_cases i:Z.1=0
 .have C:(Z.1 != 0)=false:=by rw [i];rfl
  rw [aB (λh=>h i)] at b;have dE:=ff.size;have el:=H.st.aw ff H.nq;have Jv:=H.ch.aw ff H.nm;have O:=J w1 iN el Jv;have o7:=(aH el (aH Jv (aH cu ff)));go_wp2_with fail;refine fR O λc cI aY=>?_;obtain⟨ev,bo,Ce,fH,pk⟩:=eK aY.size (o7.1.aw aY H.nq) (o7.2.1.aw aY H.nm) (o7.2.2.1.aw aY H.nl) (o7.2.2.2.trans aY (λ_ h=> .inl h));by_cases j:Y.1=0
  .have D:(Y.1 != 0)=false:=(by rw [j];rfl);rw [aB (λh=>h j)] at b;have mr:¬more F w1 c l:=λe=>e.elim H.nl (λe=>by omega);have hnq:¬more F w1 c q:=λe=>e.elim H.nq (λe=>by omega);have xz:¬more F w1 c m:=λe=>e.elim H.nm (λe=>by omega);have T:=K c (more F w1 c) cI fH mr;have A:=bo.c1;have xC:=(aH bo (aH Ce pk));go_wp2_with fail;refine pr T λo u ip aZ=>?_;have lB:=aZ.size;have fK:=xC.1.aw aZ (λe=>e.elim hnq Bc);have Cn:=xC.2.1.aw aZ (λe=>e.elim xz (λe=>xU e.symm));have qw:=u.mono (λk a=>by
    rcases a with (a|a)|a
    .exact .inl a
    .exact .inr ⟨by omega,by omega⟩
    .exact .inr ⟨by omega,a.2⟩) (cJ (F:=F) (w:=w) iK (by omega))
   have adO:aa (λk=>F k\/k=l\/k=m) w o:=(xC.2.2.mono (λ_ h=> .inl h)).trans aZ (λk a=>by
    rcases a with (a|a)|a
    .exact .inl (.inl a)
    .exact .inr (by omega)
    .exact .inl (.inr (.inl a)))
   by_cases n:X.1=0
   .have E:(X.1 != 0)=false:=(by rw [n];rfl);rw [aB (λh=>h n)] at b;obtain⟨v,yB,nr,Bh,ee⟩:=Cn.qO;have W:=fK.c7;have f:(it v (more F w v) p s (cR+2) q l m X.2.1 {G with L:=X.2.2,ov:= []}/\aa (λk=>F k\/k=l\/k=m) w v):=by
     refine⟨H.GS ((qw.aw Bh (λk a e=>by
      subst e;exact a.elim H.nm (λh=>by omega))).mono (λk a=>a.elim .inl (λh=> .inr ⟨h.1,by omega⟩)) (cJ (F:=F) (w:=w) iK (by omega))) (fK.aw Bh KA) (ip.aw Bh xU) nr Z9.1 (Z9.2.trans H.bg) (λx g=>by cases g),adO.trans Bh (λ_ e=> .inl (.inr (.inr e)))⟩
    go_wp2;go_ret;rw [b];exact⟨rfl,f⟩
   .have E:(X.1 != 0)=true:=(by rw [gB];exact n);rw [aG n] at b;have f:(it o (more F w o) p s (cR+2) q l m X.2.1 {G with L:=X.2.2}/\aa (λk=>F k\/k=l\/k=m) w o):=⟨H.GS qw fK ip Cn Z9.1 (Z9.2.trans H.bg) H.kb,adO⟩;go_wp2;go_ret;rw [b];exact⟨rfl,f⟩
  .have D:(Y.1 != 0)=true:=(by rw [gB];exact j);rw [aG j] at b;have f:(it c (more F w c) p s (cR+2) q l m Y.2 G/\aa (λk=>F k\/k=l\/k=m) w c):=⟨H.GS ((cI.from iK dE ev).le (by omega)) bo fH Ce H.lk H.bg H.kb,pk.mono (λ_ h=> .inl h)⟩;go_wp2;go_ret;rw [b];exact⟨rfl,f⟩
 .have C:(Z.1 != 0)=true:=by rw [gB];exact i
  rw [aG i] at b;have f:(it w1 (more F w w1) p s (cR+2) q l m Z.2 G/\aa (λk=>F k\/k=l\/k=m) w w1):=⟨H.GS (iN.more.le (by omega)) (H.st.aw ff H.nq) cu (H.ch.aw ff H.nm) H.lk H.bg H.kb,ff.mono (λ_ h=> .inl h)⟩;go_wp2;go_ret;rw [b];exact⟨rfl,f⟩
end
end
section
namespace B
def bX (w:World) (F:Nat->Prop) (p s:Nat) (S:DS) (m c:Nat):Prop:=∃r,gT w F p s (S.D3 r) m/\Rb r c
section
variable {w w':World} {F G:Nat->Prop} {p s m c:Nat} {S:DS}
def bX.old (h:bX w F p s S m c):Go.Proofs.YtcpdggdfihjhoaaGreat.bX w F p s S m:=by obtain⟨r,h,_⟩:=h;exact⟨r,h⟩
def bX.le {d:Nat} (h:bX w F p s S m c) (hd:c<=d):bX w F p s S m d:=by obtain⟨r,h,a⟩:=h;exact⟨r,h,a.le hd⟩
def bX.r (h:bX w F p s S m c):ax w F p s S c:=by obtain⟨r,h,a⟩:=h;exact⟨r,h.at,a⟩
def ax.aaa (h:ax w F p s S c):∃m,bX w F p s S m c:=by
 obtain⟨r,h,a⟩:=h;obtain⟨m,h⟩:=h.m;exact⟨m,r,h,a⟩
def bX.aw (h:bX w F p s S m c) (k:aa G w w') (hd:∀k,F k->¬G k):bX w' F p s S m c:=by obtain⟨r,h,a⟩:=h;exact⟨r,h.aw k hd,a⟩
def bX.later (h:bX w F p s S m c) (a:bW w w'):bX w' F p s S m c:=h.aw (aa.ah (λ_=>False) a) (λ_ _ h=>h)
def bX.mono (h:bX w F p s S m c) (a:∀k,F k->G k) (b:∀k,G k->k<w.heap.size):bX w G p s S m c:=by obtain⟨r,h,d⟩:=h;exact⟨r,h.mono a b,d⟩
def adP (h:bX w F p s S m c) (k:Nat) (n:k<s) (aU:S.puts.length+1<=4000000000000) (l:S.fuse≠0):
  Calls prog 39 #[pQ p,iV (k:Int)] w λe w'=>∃g a,e= .returned (.tuple #[.slice (some (aD g 0)) 512 a,iV 0])/\w.heap.size<=g/\ay w' 5 g a (bs (S.now k))/\bX w' F p s S m (c+1)/\aa F w w':=by
 obtain⟨r,h,o⟩:=h;refine(FK h k l n (by show S.puts.length<=_;omega)).mono ?_;rintro e w' ⟨g,a,b,d,f,i,j⟩;exact⟨g,a,b,d,f,⟨_,i,o.read⟩,j⟩
def aab (h:bX w F p s S m c) (k:Nat) (b:k<s) (aU:S.puts.length+1<=4000000000000) (a:S.fuse≠0) (x:Addr) (d:Nat) (l:List Int) (n:Src w (some x) 512 l):
  Calls prog 51 #[pQ p,iV (k:Int), .slice (some x) 512 d] w λe w'=>e= .returned (iV 0)/\bX w' (more F w w') p s (S.wr s (k:Int) 512 l).2 m c/\aa F w w':=by
 obtain⟨r,h,j⟩:=h;refine(Cg h k b a (by show S.puts.length+1<=_;omega) x d l n).mono ?_;rintro e w' ⟨f,g,i⟩;refine⟨f,⟨r,?_,j⟩,i⟩;rw [o8 a b];exact g
end
def Wl {w:World} {F:Nat->Prop} {p s m:Nat} {S:DS} (h:bX w F p s S m cR) (f n E P i c:Nat) (a:Option Addr) (x k:Nat) (l:List Int) (U:Src w a x l) (UA:∀y,a=some y->0<x->¬F y.block) (hb:Bytes l) (hx:x<=492) (tI:a=none->k=0) (hn:1<=n) (hfn:f+2+n<=s) (aU:S.puts.length+2<=4000000000000):
  Calls prog 215 #[kJ p f n,ln E P i c a x k] w λe w'=>e= .returned (iV (jY S s f n E P i c l).1)/\bX w' (more F w w') p s (jY S s f n E P i c l).2 m (cR+1)/\aa F w w':=by
 obtain⟨Mu,du,iK⟩:=kH h.r.ok.hi h.r.ok h.r.lt;have u:¬F w.heap.size:=λb=>by have:=h.r.lt _ b;omega
 have DC:¬F (w.heap.size+1):=λb=>by have:=h.r.lt _ b;omega
 have L:=(aH u DC);have ao4:P%n<n:=Nat.mod_lt _ hn;have C:=gY w (.cells #[.pointer (some ⟨p,0,none⟩), .int .i64 f, .int .i64 n] 144) (.cells (eO E P i c a x k) 230);have PH:((w.alloc (.cells #[.pointer (some ⟨p,0,none⟩), .int .i64 f, .int .i64 n] 144)).alloc (.cells (eO E P i c a x k) 230)).heap[w.heap.size]? =some (.cells #[.pointer (some ⟨p,0,none⟩), .int .i64 f, .int .i64 n] 144 (0,0)):=(Below.heap_alloc _ _ _ (by simp)).trans (heap_alloc_new _ _);have PJ:((w.alloc (.cells #[.pointer (some ⟨p,0,none⟩), .int .i64 f, .int .i64 n] 144)).alloc (.cells (eO E P i c a x k) 230)).heap[w.heap.size+1]? =some (.cells (eO E P i c a x k) 230 (0,0)):=by
  have:=heap_alloc_new (w.alloc (.cells #[.pointer (some ⟨p,0,none⟩), .int .i64 f, .int .i64 n] 144)) (.cells (eO E P i c a x k) 230);rwa [World.size_alloc] at this
 have b:=λwx=>L8 p f n P wx (by omega) (by omega) (by omega) (by omega) (by omega);obtain⟨j,o,I,D,M,H⟩:=jF C PH PJ (h.later C) (U.later C) UA;clear h C PH PJ U u DC UA;unfold jY;go_in;by_cases q:S.fuse=0
 .rw [aG q];go_wp2_with fail;refine(b _).mono ?_;rintro e w1 ⟨rfl,ar⟩;have PH:=(ar.block _ (by simp;omega)).trans o;have N:=aM PH;have t:=oE (D.later ar).r ((f:Int)+2+(P:Int)%(n:Int)) q;have A:=(aH ((((D.later ar).mono (G:=more F w w1) (λ_ h=> .inl h) (cJ iK (j.trans (ar.mono j.size)).size))).le (by omega:cR<=cR+1)) (aa.ah F (j.trans (ar.mono j.size))));clear b ar PH;go_wp2_with fail;refine t.mono ?_;rintro e d ⟨rfl,rfl⟩;clear t;go_wp2;go_ret;exact⟨rfl,A⟩
 .rw [aB q];have mr:=bu du (f+2+P%n) (by omega);have hlx:=M.1;have mi:=sE (old:=S.now (f+2+P%n)) (body:=kR E P i c l) mr (by rw [vo];omega);obtain⟨Y,K⟩:=bQ (gw (S.now (f+2+P%n)) (kR E P i c l));rw [<-K] at mi⊢;have X:=K;clear K;have O:(f:Int)+2+(P:Int)%(n:Int)=((f+2+P%n:Nat):Int):=by omega
  rw [O] at b;clear O;go_wp2_with fail;refine(b _).mono ?_;rintro e w1 ⟨rfl,ar⟩;have PH:=(ar.block _ (by simp;omega)).trans o;have PJ:=(ar.block _ (by simp)).trans I;have N:=aM PH;obtain⟨t,cQ,o7,aiQ,aiR⟩:=eK (adP (D.later ar) (f+2+P%n) (by omega) (by omega) q) ((j.trans (ar.mono j.size))) ((M.later ar)) PH PJ;clear b ar PH PJ;go_wp2_with fail;refine t.mono ?_;rintro e d ⟨g,cg,rfl,hg,T,cI,aY⟩;have PH:=eE aiQ aY L.1;have PJ:=eE aiR aY L.2;have q0:d.cell? ⟨w.heap.size+1,0,none⟩=some (iV (E:Int)):=aM PJ;have q1:d.cell? ⟨w.heap.size+1,1,none⟩=some (iV (P:Int)):=bG PJ;have q2:d.cell? ⟨w.heap.size+1,2,none⟩=some (iV (i:Int)):=bK PJ;have q3:d.cell? ⟨w.heap.size+1,3,none⟩=some (iV (c:Int)):=fQ PJ;have q4:d.cell? ⟨w.heap.size+1,4,none⟩=some (.slice a x k):=gH PJ;have Q:=Rc E P i c a x k l d (o7.o9 aY H) hx tI;have pF:=T.src;rw [mr] at pF;obtain⟨W,sB,ig,adQ⟩:=cO pF cI (((aa.ah F cQ).trans aY (λ_ h=> .inl h))) PH;clear t T pF cI aY PH PJ;go_wp2_with fail;refine Q.mono ?_;rintro e w3 ⟨v,rfl,BH,bF⟩;obtain⟨Z,c3,rfl,fK,_,_⟩:=BH.src;have J:=QT (some (aD g 0)) 512 cg (S.now (f+2+P%n)) Z _ c3 (kR E P i c l) w3 (W.later bF) fK (mC hb);rw [<-X,mi.1] at J;have VA:=(sB.later bF);have lS:=(ig.trans (aa.ah (λ_=>False) bF) (λ_ h=>h.elim));have adR:=((bF.block _ (aq adQ)).trans adQ);clear Q BH bF fK;go_wp2_with fail;refine J.mono ?_;rintro e w4 ⟨v4,rfl,⟨a4,c4,rfl,Ep,_,_⟩,fw⟩;have N:=aM ((fw.block _ (aq adR)).trans adR);rw [mi.2] at Ep⊢;obtain⟨b5,o5,rfl⟩:=cX Ep (by omega);have R:=aab (VA.later fw) (f+2+P%n) (by omega) (by omega) q (aD b5 o5) c4 Y.1 Ep;have Mk:=(lS.trans (aa.ah (λ_=>False) fw) (λ_ h=>h.elim));clear J fw Ep;go_wp2_with fail;refine fR R λw5 jH dX=>?_;have ws:=Mk.size;have pR:=dX.size;have A:=(aH ((jH.mono (G:=more F w w5) (λk z=>by
    rcases z with z|z
    .exact .inl z
    .exact .inr ⟨by omega,z.2⟩) (cJ iK (by omega)))) (Mk.trans dX (λ_ h=> .inl h)))
  clear R jH dX;go_wp2;go_ret;rw [(o8 q (show f+2+P%n<s by omega) Y.1)] at A⊢;exact⟨rfl,A⟩
end B
end
section
namespace B
def bX.narrow {w:World} {F G:Nat->Prop} {p s:Nat} {S:DS} {m a:Nat} (h:bX w F p s S m a) (b:∀k,F k->(IsC w k\/k=m)->G k) (c:∀k,G k->k<w.heap.size):bX w G p s S m a:=by
 obtain⟨r,h,d⟩:=h;exact⟨r,h.narrow b c,d⟩
def bX.fm {w:World} {F:Nat->Prop} {p s:Nat} {S:DS} {m a:Nat} (h:bX w F p s S m a):F m:=h.old.fm
def bX.fc {w0 w w':World} {F:Nat->Prop} {B p s:Nat} {S:DS} {m b:Nat} (h:bX w' (more (FC F B m w) w w') p s S m b) (e:B<=w.heap.size) (c:w0=w0):bX w' (FC F B m w') p s S m b:=
 h.narrow (λk a d=>⟨by
  rcases a with a|a
  .exact a.1
  .exact .inr (by omega),d,h.r.lt k a⟩) (λ_ a=>a.2.2)
structure Er (w W:World) (F:Nat->Prop) (l p s m M n0:Nat) (L:LG) (S:DS) (d:List Int) (xs:List Nat) (cR:Nat):Prop where
 ok:(rI L S s d xs).1=0
 dk:bX W (FC F n0 m W) p s (rI L S s d xs).2 m (cR+xs.length)
 mrk:W.heap[M]? =some (.cells #[.int .i64 (L.ep:Int), .int .i64 ((L.head+xs.length:Nat):Int), .int .i64 ((xs.length:Nat):Int), .int .i64 ((dh d.length:Nat):Int)] 228 (0,0))
 bx:ij W w.heap.size l
 kp:aa F w W
 sz:n0<=W.heap.size
structure GT (w W:World) (F:Nat->Prop) (p s m n0:Nat) (L:LG) (S:DS) (d:List Int) (xs:List Nat) (cR:Nat):Prop where
 no:(rI L S s d xs).1≠0
 dk:bX W (FC F n0 m W) p s (rI L S s d xs).2 m (cR+xs.length)
 er:W.heap[w.heap.size+1]? =some (.cells #[.int .i64 (rI L S s d xs).1] 49 (0,0))
 kp:aa F w W
 sz:n0<=W.heap.size
def bX.carry {W W':World} {F:Nat->Prop} {p s m f c:Nat} {S:DS} (h:bX W (FC F f m W) p s S m c) (e:kC W W') (g:W'.heap[m]? =W.heap[m]?) (j:W.heap.size<=W'.heap.size):bX W' (FC F f m W') p s S m c:=by
 obtain⟨r,h,i⟩:=h;refine⟨r,(h.agree j (λk a=>?_)).mono (λk a=>⟨a.1,?_,by have:=a.2.2;omega⟩) (λ_ a=>a.2.2),i⟩
 .rcases a.2.1 with ⟨cur,t,d,b⟩|rfl
  .rw [e _ _ _ _ b,b]
  .exact g
 .rcases a.2.1 with ⟨cur,t,d,b⟩|h
  .exact .inl ⟨cur,t,d,e _ _ _ _ b⟩
  .exact .inr h
section
variable {w W W':World} {F:Nat->Prop} {l p s m M n0 cR:Nat} {L:LG} {S:DS} {d:List Int} {xs:List Nat}
def Er.step (h:Er w W F l p s m M n0 L S d xs cR) (a:kC W W') (e:W'.heap[m]? =W.heap[m]?) (b:W.heap.size<=W'.heap.size) (c:aa F w W'):Er w W' F l p s m M n0 L S d xs cR:=
   ⟨h.ok,h.dk.carry a e b,a _ _ _ _ h.mrk,⟨a _ _ _ _ h.bx.1,a _ _ _ _ h.bx.2⟩,c,j4 h.sz b⟩
def GT.step (h:GT w W F p s m n0 L S d xs cR) (a:kC W W') (e:W'.heap[m]? =W.heap[m]?) (b:W.heap.size<=W'.heap.size) (c:aa F w W'):GT w W' F p s m n0 L S d xs cR:=
   ⟨h.no,h.dk.carry a e b,a _ _ _ _ h.er,c,j4 h.sz b⟩
def Fj (h:bX W (FC F n0 m W) p s S m cR):m<W.heap.size:=h.fm.2.2
def Er.grown {row:Option Nat} (h:Er w W F l p s m M n0 L S d xs cR) (c:m<n0) (f:w.heap.size<=n0) (a:W.grownBy W' row) (b:∀r,row=some r->n0<=r/\∃o:Obj,W.heap[r]? =some o/\o.isCells=false):Er w W' F l p s m M n0 L S d xs cR:=
 h.step (jg a (λr e=>(b r e).2)) (a.block m (Fj h.dk) (λe=>by have:=(b m e.symm).1;omega)) a.size (h.kp.grown a (λr e=>by have:=(b r e).1;omega))
def GT.grown {row:Option Nat} (h:GT w W F p s m n0 L S d xs cR) (c:m<n0) (f:w.heap.size<=n0) (a:W.grownBy W' row) (b:∀r,row=some r->n0<=r/\∃o:Obj,W.heap[r]? =some o/\o.isCells=false):GT w W' F p s m n0 L S d xs cR:=
 h.step (jg a (λr e=>(b r e).2)) (a.block m (Fj h.dk) (λe=>by have:=(b m e.symm).1;omega)) a.size (h.kp.grown a (λr e=>by have:=(b r e).1;omega))
end
def bX.Fk {W W':World} {F:Nat->Prop} {p s m c b d:Nat} {S:DS} (h:bX W (FC F c m W) p s S m d) (a:aa (λk=>k=b) W W') (f:¬FC F c m W b):bX W' (FC F c m W') p s S m d:=
   (h.aw a (λk a e=>f (e▸a))).mono (λk Br=>⟨Br.1,by
  rcases Br.2.1 with ⟨cur,t,g,i⟩|h
  .exact .inl ⟨cur,t,g,(a.block k Br.2.2 (λe=>f (e▸Br))).trans i⟩
  .exact .inr h,by have:=Br.2.2;have:=a.size;omega⟩) (λ_ a=>a.2.2)
def MG {w W:World} {F:Nat->Prop} {p s m b M l D c:Nat} {S:DS} {L:LG} {e:Int} (n:∀j,F j->j<w.heap.size) (hd:bX W (FC F b m W) p s S m c) (u:cW W l p L) (a:aa (λk=>F k\/k=l) w W) (f:W.heap[w.heap.size+1]? =some (.cells #[.int .i64 e] 49 (0,0))) (g:W.heap[D]? =some (.deferred (some [])))
    (i:b<=D) (v:l<w.heap.size) (z:w.heap.size+2<=M) (o:M<b) (Wk:m<w.heap.size):
    (W.putObj D (.deferred none)).cell? ⟨w.heap.size+1,0,none⟩=some (iV e)/\ax (W.putObj D (.deferred none)) (more F w (W.putObj D (.deferred none))) p s S c/\cW (W.putObj D (.deferred none)) l p L/\aa (λk=>F k\/k=l) w (W.putObj D (.deferred none)):=by
 have ee:(W.putObj D (.deferred none)).heap.size=W.heap.size:=by simp [World.putObj]
 have mX:aa (λk=>k=D) W (W.putObj D (.deferred none)):=⟨rfl,rfl,rfl,by omega,λk _ x=>World.putObj_heap_other x⟩;have q:=a.size;refine⟨aM ((mX.block _ (aq f) (by omega)).trans f),?_,u.aw mX (by omega),a.trans mX (λ_ h=> .inr (by omega))⟩;refine(hd.r.aw mX (λk a e=>?_)).mono (λk a=>?_) (λk a=>?_)
 .rcases a.2.1 with ⟨cur,t,y,d⟩|h
  .rw [e,g] at d;cases d
  .omega
 .rcases a.1 with h|h
  .exact .inl h
  .exact .inr ⟨by omega,by have:=a.2.2;omega⟩
 .rcases a with h|h
  .have:=n k h;omega
  .exact h.2
end B
end
section
namespace B
open Go.RowKit Go.Shelf
attribute [local go_sem] Oper.semAt_some
section
variable {w:World} {F:Nat->Prop} {p s l cR:Nat} {S:DS} {L:LG}
set_option maxRecDepth 100000 in
def Oh (h:ax w F p s S cR) (hl:cW w l p L) (A:L.Ok s) (hF:¬F l) (b o x k:Nat) (d:List Int) (hs:Src w (some (aD b o)) x d) (DC:¬F b) (hd:Bytes d) (hxk:x<=k) (hr:L.fW S x=0) (aU:S.puts.length+100<=4000000000000):
  Calls prog 174 #[pQ l, .slice (some (aD b o)) x k] w λe w'=>e= .returned (iV (L.append S s d).1)/\ax w' (more F w w') p s (L.append S s d).2.1 (cR+17)/\cW w' l p (L.append S s d).2.2/\aa (λk=>F k\/k=l) w w':=by
 obtain⟨k0,k1,k2,k3,k4⟩:=jK hr;obtain⟨W0,Kd⟩:=zEr ((w.alloc (.cells #[.pointer (some ⟨l,0,none⟩)] 89)).alloc (.cells #[.int .i64 0] 49));have fO:bW w W0:=by rw [<-Kd];exact gY _ _ _
 have XN:ij W0 w.heap.size l:=by
  rw [<-Kd];refine⟨(Below.heap_alloc _ _ _ (by simp)).trans (heap_alloc_new _ _),?_⟩;have:=heap_alloc_new (w.alloc (.cells #[.pointer (some ⟨l,0,none⟩)] 89)) (.cells #[.int .i64 0] 49);rwa [World.size_alloc] at this
 have M:=jx (h.later fO) (hl.later fO);rw [k0] at M;obtain⟨ee,HW,HQ,HB,HL,hhi,HO⟩:=nA hl.lt (yh Kd) (yh XN) (yh fO) (yh (hl.later fO)) A.hi (yh A);have iN:((x:Int) == 0)=false:=by rw [fJ];omega
 have cI:¬(8364:Int)<(x:Int):=by omega
 obtain⟨C,hC⟩:=bQ ((x+491) / 492);have Yg:dh x=C:=by rw [hC];rfl
 rw [Yg] at k3 k4;have Qm:C<=17:=by omega
 have hd3:¬(1073741824:Int)<(L.head:Int)+(C:Int):=by omega
 obtain⟨HC,HD,E,HR,iK⟩:=U3 hC h hl hr h.lt;clear hC fO XN Kd A hl h hr k0;refine(callsIn_wide (n:=6)).1 ?_;refine callsIn_of_wp_marks func174 rfl trivial ?_ rfl;simp only [ntmps174,List.size_toArray,List.length_cons,List.length_nil,Nat.reduceAdd,Nat.reduceSub,Array.replicate_succ,Array.replicate_zero,List.push_toArray,List.append_toArray,List.nil_append,List.cons_append];refine(wpIn_wide (n:=6)).2 ?_;go_wp2_with fail;rw [HW.o];refine M.mono ?_;rintro e w1 ⟨rfl,ar⟩;have iM:=ij.later HQ.o ar;have b0:w1.cell? (aD w.heap.size 0)=some (pQ l):=aM iM.1;have cu:=HL.o.later ar;have bO:=HB.o.trans (ar.mono HB.o.size);have c7:=cu.c7;have h3:=zk cu HO.o;have r:=λwx=>je x wx (by omega);obtain⟨cQ,HQ1,BG⟩:=kI bO iM cu;clear M ar bO iM cu;go_wp2_with fail;refine(r _).mono ?_;rintro e g ⟨rfl,dD⟩;have eG:=dD.symm;subst eG;rw [<-HC.o];clear r dD;go_wp2_with fail;refine h3.mono ?_;rintro e g ⟨rfl,bd⟩;have qP:=ij.later HQ1.o bd;have eR:=cQ.o.trans (bd.mono cQ.o.size);have fH:=BG.o.later bd;have b2:g.cell? (aD w.heap.size 0)=some (pQ l):=aM qP.1;have e5:=fH.c5;have e7:=fH.c7;clear h3 bd;go_wp2_with fail;go_region_held3 (λw'=>w'.cell? (aD w.heap.size 0)=some (pQ l)/\w'.cell? (aD l 5)=some (iV (L.ep:Int))/\w'.cell? (aD l 7)=some (iV (L.head:Int))) (go_keep) (fail);have jD:w.heap.size+2<=g.heap.size:=by have:=aq qP.2;omega
 clear c7 e5 e7 b2 b0;obtain⟨I,iG⟩:∃I,(g.alloc (.cells #[.int .i64 (L.ep:Int), .int .i64 (L.head:Int), .int .i64 0, .int .i64 (C:Int)] 228)).drew=I:=⟨_,rfl⟩;rw [iG];have lB:I.heap.size=g.heap.size+1:=by rw [<-iG];show (g.alloc _).heap.size=_;simp
 have jU:bW w I:=by rw [<-iG];exact ai (eR.alloc eR.size _)
 have Cn:I.heap[g.heap.size]? =some (.cells #[.int .i64 (L.ep:Int), .int .i64 (L.head:Int), .int .i64 0, .int .i64 (C:Int)] 228 (0,0)):=by rw [<-iG];exact heap_alloc_new _ _
 have Oi:ij I w.heap.size l:=qP.later (by rw [<-iG];exact ai (aJ _ _));obtain⟨H,gd,HM3,HQ3⟩:=Bo lB jU Cn Oi;clear iG jU Cn Oi lB qP eR fH;go_wp2_with fail;refine(NP (some (aD b o)) x k I).mono ?_;rintro e q ⟨rfl,px⟩;go_wp2_with fail;refine(wpIn_wide (n:=6)).1 ?_;have fw:bW I q:=by rw [px];exact gY _ _ _
 have ws:q.heap.size=g.heap.size+3:=by rw [px];have:=H.o;simp;omega
 have Ep:q.heap[g.heap.size+1]? =some (.cells #[.slice (some ⟨b,o,none⟩) x k] 36 (0,0)):=by
  rw [px,<-H.o];exact(Below.heap_alloc _ _ _ (by simp)).trans (heap_alloc_new _ _)
 have Wm:q.heap[g.heap.size+1+1]? =some (.cells #[.int .i64 492] 3 (0,0)):=by
  rw [px,<-H.o];have:=heap_alloc_new (I.alloc (.cells #[.slice (some ⟨b,o,none⟩) x k] 36)) (.cells #[.int .i64 492] 3);rwa [World.size_alloc] at this
 rw [H.o];rw [<-px];clear px;have rF:=gd.o.trans (fw.mono gd.o.size);have UF:=hs.1;have Q:dh d.length=C:=by rw [UF];exact Yg
 obtain⟨m,hDm⟩:=HD.o.aaa;have Wk:=HD.o.lt m hDm.fm;have aac:=rF.size;have hI0:Er w q F l p s m g.heap.size q.heap.size L S d [] cR:=by
  refine⟨rfl,?_,?_,HQ3.o.later fw,aa.ah F rF,bS _⟩
  .exact(hDm.later rF).narrow (λk A hc=>⟨.inl A,hc,by have:=HD.o.lt k A;omega⟩) (λ_ A=>A.2.2)
  .rw [Q];exact(fw.block _ (aq HM3.o)).trans HM3.o
 refine wpIn_rangeFunc_ownH rfl (by omega) (gf:=228) (lb:= #[.pointer (some ⟨g.heap.size+1,0,none⟩), .pointer (some ⟨g.heap.size+1+1,0,none⟩)]) rfl trivial (enters_of func228 (by kernel_rfl) rfl)
    (GA (6-1) (by omega) (g.heap.size+1) (g.heap.size+1+1) b o x k C k1 k2 hxk HC.o q Ep Wm) vt.t (vt.b (by omega) (by omega)) (bi _ _) (λ_=>rfl)
    (λa W=>Er w W F l p s m g.heap.size q.heap.size L S d (a.map Fin.val) cR)
    (λc a W=>c= .ret/\GT w W F p s m q.heap.size L S d (a.map Fin.val) cR)
  ?hI ?hIx hI0
    (λy a' _=>a'={tmps:= #[Value.pointer (some (aD l 0)), .slice (some (aD b o)) x k,pQ w.heap.size,undef, .pointer (some ⟨w.heap.size+1,0,none⟩),iV 0,iV (C:Int),pQ g.heap.size, .slice (some ⟨b,o+492*y.1,none⟩) (gF x y.1) (gF x y.1),undef,pQ l,iV 0,iV 0, .bool false,undef, .slice (some (aD b o)) x k,iV (x:Int),iV (C:Int), .bool false, .slice (some (aD b o)) x k,iV (x:Int), .bool false, .bool (decide ((8364:Int)<(x:Int))), .slice (some (aD b o)) x k,iV (x:Int), .bool (decide ((8364:Int)<(x:Int))), .bool (decide ((1073741824:Int)<(L.head:Int)+(C:Int))),pQ l,pQ l, .pointer (some (aD l 7)),iV (L.head:Int),iV (C:Int),iV ((L.head:Int)+(C:Int)), .bool (decide ((1073741824:Int)<(L.head:Int)+(C:Int))), .bool (decide ((L.n:Int)-((L.head:Int)-(L.tail:Int))<(C:Int))),iV (C:Int),pQ l,iV ((L.n:Int)-((L.head:Int)-(L.tail:Int))), .bool (decide ((L.n:Int)-((L.head:Int)-(L.tail:Int))<(C:Int))),pQ l,pQ l, .pointer (some (aD l 5)),iV (L.ep:Int),pQ l,pQ l, .pointer (some (aD l 7)),iV (L.head:Int),iV (C:Int), .agg #[iV (L.ep:Int),iV (L.head:Int),iV 0,iV (C:Int)], .slice (some (aD b o)) x k, .func (.func 228) #[] #[.pointer (some ⟨g.heap.size+1,0,none⟩), .pointer (some ⟨g.heap.size+1+1,0,none⟩)], .slice (some ⟨b,o+492*y.1,none⟩) (gF x y.1) (gF x y.1),undef,undef,undef,undef,undef,undef,undef,undef,undef,undef,undef,undef,undef,undef,undef,undef,undef,undef,undef,undef,undef],defers:= []}) ?hAx ?assign ?body ?done ?stop
 case hI=>exact λ_ _ _ _ h hg hr=>h.grown (by omega) aac hg hr
 case hIx=>exact λ_ _ _ _ _ h hg hr=>⟨h.1,h.2.grown (by omega) aac hg hr⟩
 case hAx=>exact λ_ _ _ _ _ _ h _ _=>h
 case assign=>
  intro l' a y W K hI hK;simp only [VO]
  gi_wp2
  exact hK _ _ (KeepsFrom.refl _ _) (vt.refl _ _ _) hI rfl
 case body=>
  rintro l' a y a' W Up ⟨rr,Jd⟩ hI rfl bq;have hlen:(a.map Fin.val).length=a.length:=by simp
  have GU:(a ++ [y]).map Fin.val=a.map Fin.val ++ [y.1]:=by simp
  have hy:=y.2;have UH:=E.o.aw hI.kp hF;have j0:=hs.o9 hI.kp (λz hz _=>by cases hz;exact DC);have hpt:=NT L S s d (a.map Fin.val);have Uy:prog.follows .mixedOrders=true:=by kernel_rfl
  have yB:gF x y.1=min 492 (x-492*y.1):=rfl;have hyx:492*y.1<x:=by have:=HC.o;omega
  have Yi:Src W (some ⟨b,o+492*y.1,none⟩) (gF x y.1) (partOf d y.1):=by
   have:=j0.sub (492*y.1) (gF x y.1) (by omega);rwa [show (d.drop (492*y.1)).take (gF x y.1)=partOf d y.1 by unfold partOf;rw [List.take_eq_take_iff,List.length_drop,UF];omega] at this
  have hbP:Bytes (partOf d y.1):=oI hd _;have ao8:b<w.heap.size:=hs.old _ rfl (by omega);have hFC:∀k,w.heap.size<=k->k<q.heap.size->¬FC F q.heap.size m W.drew k:=λk M r h=>by
   rcases h.1 with h|h
   .have:=iK.o k h;omega
   .omega
  have hdW:bX W.drew (FC F q.heap.size m W.drew) p s (rI L S s d (a.map Fin.val)).2 m (cR+(a.map Fin.val).length):=hI.dk.carry (λ_ _ _ _ h=>h) rfl (bS _);have Sd:=Wl hdW L.f L.n L.ep (L.head+(a.map Fin.val).length) (a.map Fin.val).length C (some ⟨b,o+492*y.1,none⟩) (gF x y.1) (gF x y.1) (partOf d y.1) (Yi.later (ai (bi _ _))) (λz hz _ h=>by
   cases hz;rcases h.1 with h|h
   .exact DC h
   .have:q.heap.size<=b:=h;omega) hbP (by omega) (λh=>by cases h) (by have:=HO.o.n1;omega) HO.o.s (by omega)
  have gu:=NS (L:=L) (S:=S) (s:=s) (d:=d) y.1 hI.ok;rw [Q] at gu;generalize jY (rI L S s d (a.map Fin.val)).2 s L.f L.n L.ep (L.head+(a.map Fin.val).length) (a.map Fin.val).length C (partOf d y.1)=Y at Sd gu;rw [<-GU] at gu;have b0:W.drew.cell? (aD w.heap.size 0)=some (pQ l):=aM hI.bx.1;have Yj:=hI.mrk;rw [Q] at Yj;generalize hj:(a.map Fin.val).length=j at Sd Yj;have hjC:j<17:=by omega
  have ul:((L.head+j:Nat):Int)=(L.head:Int)+(j:Int):=by omega
  rw [ul] at Sd Yj;generalize gF x y.1=cL at*;have HJ:=yh hj;clear yB ul hj;have gZ:Yh (∀W':World,W'.heap[w.heap.size]? =some (.cells #[.pointer (some ⟨l,0,none⟩)] 89 (0,0))->W'.heap[g.heap.size]? =some (.cells #[.int .i64 (L.ep:Int), .int .i64 ((L.head:Int)+(j:Int)), .int .i64 (j:Int), .int .i64 (C:Int)] 228 (0,0))->cW W' l p L->
      (W'.cell? (aD w.heap.size 0)=some (pQ l)/\W'.cell? (aD g.heap.size 0)=some (iV (L.ep:Int))/\W'.cell? (aD g.heap.size 1)=some (iV ((L.head:Int)+(j:Int)))/\W'.cell? (aD g.heap.size 2)=some (iV (j:Int))/\W'.cell? (aD g.heap.size 3)=some (iV (C:Int))/\
     W'.cell? (aD l 0)=some (pQ p)/\W'.cell? (aD l 1)=some (iV (L.f:Int))/\W'.cell? (aD l 2)=some (iV (L.n:Int)))):=
   λW' g1 g2 g3=>⟨aM g1,aM g2,bG g2,bK g2,fQ g2,g3.c0,g3.c1,g3.c2⟩
  obtain⟨Z,MH,aiU,HMk,VJ,U⟩:=YZ (gZ.o W.drew hI.bx.1 Yj (UH.later (ai (bi _ _)))) hI Sd Yj gu hFC;clear hI Sd Yj gu hFC Yi j0 UH hdW hpt b0
  gi_wp2_with fail
  refine nL (S:=λW'=>W'.cell? (aD w.heap.size 0)=some (pQ l)/\W'.cell? (aD g.heap.size 0)=some (iV (L.ep:Int))/\W'.cell? (aD g.heap.size 1)=some (iV ((L.head:Int)+(j:Int)))/\W'.cell? (aD g.heap.size 2)=some (iV (j:Int))/\W'.cell? (aD g.heap.size 3)=some (iV (C:Int))/\
     W'.cell? (aD l 0)=some (pQ p)/\W'.cell? (aD l 1)=some (iV (L.f:Int))/\W'.cell? (aD l 2)=some (iV (L.n:Int))) Uy (by kernel_rfl) ?_
  refine wpAnyH_take (i:=0) (v:=pQ l) rfl (by kernel_rfl) (by kernel_rfl) (by kernel_rfl) (λ_ _ _ h=>h) (Or.inl ⟨by rfl,?_⟩) Z.out ?_
  .rintro W1 ⟨y1,y2,y3,y4,y5,y6,y7,y8⟩;go_simp
  try simp only [Act.put,List.setIfInBounds_toArray]
  refine wpAnyH_take (i:=1) (v:=pQ l) rfl (by kernel_rfl) (by kernel_rfl) (by kernel_rfl) (λ_ _ _ h=>h) (Or.inl ⟨by rfl,?_⟩) Z.out ?_
  .rintro W1 ⟨y1,y2,y3,y4,y5,y6,y7,y8⟩;go_simp
  try simp only [Act.put]
  refine wpAnyH_take (i:=2) (v:=pQ l) rfl (by kernel_rfl) (by kernel_rfl) (by kernel_rfl) (λ_ _ _ h=>h) (Or.inl ⟨by rfl,?_⟩) Z.out ?_
  .rintro W1 ⟨y1,y2,y3,y4,y5,y6,y7,y8⟩;go_simp
  try simp only [Act.put]
  refine wpAnyH_take (i:=3) (v:=kJ p L.f L.n) rfl (by kernel_rfl) (by kernel_rfl) (by kernel_rfl) (λ_ _ _ h=>h) (Or.inl ⟨by rfl,?_⟩) Z.out ?_
  .rintro W1 ⟨y1,y2,y3,y4,y5,y6,y7,y8⟩;go_simp
  try simp only [Act.put]
  refine wpAnyH_take (i:=4) (v:=zt (L.ep:Int) ((L.head:Int)+(j:Int)) (j:Int) (C:Int)) rfl (by kernel_rfl) (by kernel_rfl) (by kernel_rfl) (λ_ _ _ h=>h) (Or.inl ⟨by rfl,?_⟩) Z.out ?_
  .rintro W1 ⟨y1,y2,y3,y4,y5,y6,y7,y8⟩;go_simp
  try simp only [Act.put]
  refine wpAnyH_take (i:=5) (v:= .slice (some ⟨b,o+492*y.1,none⟩) cL cL) rfl (by kernel_rfl) (by kernel_rfl) (by kernel_rfl) (λ_ _ _ h=>h) (Or.inl ⟨by rfl,?_⟩) Z.out ?_
  .rintro W1 ⟨y1,y2,y3,y4,y5,y6,y7,y8⟩;go_simp
  try simp only [Act.put]
  refine wpAnyH_take (i:=6) (v:=ln (L.ep:Int) ((L.head:Int)+(j:Int)) (j:Int) (C:Int) (some ⟨b,o+492*y.1,none⟩) cL cL) rfl (by kernel_rfl) (by kernel_rfl) (by kernel_rfl) (λ_ _ _ h=>h) (Or.inl ⟨by rfl,?_⟩) Z.out ?_
  .rintro W1 ⟨y1,y2,y3,y4,y5,y6,y7,y8⟩;go_simp
  try simp only [Act.put]
  refine wpAnyH_ready (rs:= [7]) (by kernel_rfl) (by simp) (AllReadyH.cons rfl (λK hK=>?_) AllReadyH.nil);go_simp;refine aiU.o.mono ?_;rintro e u ⟨rfl,cI,aY⟩;have ev:W.heap.size<=u.heap.size:=aY.size;have hd3:=cI.fc (w0:=w) (w:=W.drew) MH.o.sz rfl;have pk:=(MH.o.kp.trans (aa.ah (λ_=>False) (ai (bi W.heap.size W))) (λ_ h=>h.elim)).trans aY (λk A=>by
   rcases A.1 with h|h
   .exact .inl h
   .exact .inr (by omega))
  have rM:∀k R,w.heap.size<=k->k<q.heap.size->W.heap[k]? =some R->u.heap[k]? =some R:=λk R M r h3=>(aY.block k (aq h3) (U.o k M r)).trans h3;have iq:ij u w.heap.size l:=⟨rM _ _ (by omega) (by omega) MH.o.bx.1,rM _ _ (by omega) (by omega) MH.o.bx.2⟩;have aad:=rM g.heap.size _ (by omega) (by omega) HMk.o;have qx:KeepsFrom q.heap.size W u:=⟨ev,λk R M r h3=>(aY.block k (aq r) (λh=>by
   rcases h.2.1 with ⟨cur,t,fz,hc⟩|h
   .have Uw:W.heap[k]? =some (.cells cur t fz):=hc;rw [r] at Uw;cases Uw;cases h3
   .omega)).trans r⟩
  have Bh:vt (g.heap.size+1) (g.heap.size+1+1) W u:=⟨aY.block _ (by have:=MH.o.sz;show _<W.heap.size;omega) (U.o _ (by omega) (by omega)),aY.block _ (by have:=MH.o.sz;show _<W.heap.size;omega) (U.o _ (by omega) (by omega))⟩;have fH:=E.o.aw pk hF;obtain⟨S2,VA,HKw,Ur,adS,X,HKc⟩:=acw (gZ.o u iq.1 aad fH) hd3 pk iq aad qx Bh;clear cI aY hd3 pk rM iq aad qx Bh fH;refine hK.out _ _ S2.out (λ_=>?_);clear hK K;try simp only [Act.put,List.setIfInBounds_toArray,List.set_cons_zero,List.set_cons_succ]
  refine wpAnyH_take (i:=8) (v:=iV Y.1) rfl (by kernel_rfl) (by kernel_rfl) (by kernel_rfl) (λ_ _ _ h=>h) (Or.inl ⟨by rfl,?_⟩) S2.out ?_
  .rintro W1 ⟨y1,y2,y3,y4,y5,y6,y7,y8⟩;go_simp
  try simp only [Act.put,List.setIfInBounds_toArray]
  refine wpAnyH_done (by kernel_rfl) ?_ _;have er1:u.cell? ⟨w.heap.size+1,0,none⟩=some (iV 0):=aM Ur.o.2;have ef1:=ae Ur.o.2 0;by_cases kY:Y.1=0
  .have dY:(Y.1 == 0)=true:=(by rw [beq_iff_eq];exact kY);obtain⟨z1,z2,z3,z4,z5,_⟩:=S2.out;have ZJ:=CallsIn.inRound l' (callsIn_wide (n:=3).2 (Rh L.ep (L.head+j) j C u (by omega) (by omega)));rw [show ((L.head+j:Nat):Int)=(L.head:Int)+(j:Int) by omega] at ZJ;have UD:=yh kY;clear kY
   gi_wp2_with fail
   refine⟨trivial,?_⟩;refine ZJ.mono ?_;rintro e W5 ⟨rfl,fa⟩;have xZ:=(fa.block _ (aq adS.o)).trans adS.o;have m0:W5.cell? (aD g.heap.size 0)=some (iV (L.ep:Int)):=aM xZ;have m1:W5.cell? (aD g.heap.size 1)=some (iV ((L.head:Int)+(j:Int))):=bG xZ;have m2:W5.cell? (aD g.heap.size 2)=some (iV (j:Int)):=bK xZ;have m3:W5.cell? (aD g.heap.size 3)=some (iV (C:Int)):=fQ xZ;have mf:=λi=>ae xZ i;obtain⟨HM5,jr⟩:=bU xZ fa;clear xZ fa ZJ z1 z2 z3 z4 z5 er1 ef1
   gi_wp2
   obtain⟨WX,O⟩:∃WX,((((W5.setCell ⟨g.heap.size,0,none⟩ (.int .i64 (L.ep:Int))).setCell ⟨g.heap.size,1,none⟩ (.int .i64 ((L.head:Int)+(j:Int)+1))).setCell ⟨g.heap.size,2,none⟩ (.int .i64 ((j:Int)+1))).setCell ⟨g.heap.size,3,none⟩ (.int .i64 (C:Int)))=WX:=⟨_,rfl⟩;rw [O];have ey:aa (λk=>k=g.heap.size) W5 WX:=by
    rw [<-O];exact(((aL (F:=λk=>k=g.heap.size) _ rfl 0 _).trans (aL (F:=λk=>k=g.heap.size) _ rfl 1 _) (λ_ h=> .inl h)).trans (aL (F:=λk=>k=g.heap.size) _ rfl 2 _) (λ_ h=> .inl h)).trans (aL (F:=λk=>k=g.heap.size) _ rfl 3 _) (λ_ h=> .inl h)
   have hkx:KeepsFrom q.heap.size W5 WX:=by
    rw [<-O];exact((((KeepsOthers.setCell _ _ _).from _).trans ((KeepsOthers.setCell _ _ _).from _)).trans ((KeepsOthers.setCell _ _ _).from _)).trans ((KeepsOthers.setCell _ _ _).from _)
   have hmX:WX.heap[g.heap.size]? =some (.cells #[.int .i64 (L.ep:Int), .int .i64 ((L.head:Int)+(j:Int)+1), .int .i64 ((j:Int)+1), .int .i64 (C:Int)] 228 (0,0)):=by
    rw [<-O];exact(heap_setCell_same _ _ 3 _ _ _ (heap_setCell_same _ _ 2 _ _ _ (heap_setCell_same _ _ 1 _ _ _ (heap_setCell_same _ _ 0 _ _ _ HM5.o)))).trans (by simp)
   have fa:=jr.o;have ZM:=MH.o.sz;have hc5:=eA fa;have jH:=VA.o.carry hc5 (fa.block _ (Fj VA.o)) fa.size;have lA:∀k R,¬k=g.heap.size->u.heap[k]? =some R->WX.heap[k]? =some R:=λk R M r=>(ey.block k (by have:=aq r;have:=fa.size;omega) M).trans ((fa.block k (aq r)).trans r);have pR:=fa.size;have hzX:=ey.size;have hIX:Er w WX F l p s m g.heap.size q.heap.size L S d ((a ++ [y]).map Fin.val) cR:=by
    have J:=VJ.o;have I8:cR+j+1<=cR+((a ++ [y]).map Fin.val).length:=(by rw [GU,ed,List.length_singleton,HJ.o];omega);refine⟨by rw [J];exact UD.o,by rw [J];exact(jH.Fk ey (Fh iK.o (by omega) (by omega))).le I8,?_,⟨lA _ _ (by omega) Ur.o.1,lA _ _ (by omega) Ur.o.2⟩,(HKw.o.trans (aa.ah (λ_=>False) fa) (λ_ h=>h.elim)).trans ey (λ_ h=> .inr (by omega)),by omega⟩;rw [hmX,GU,ed,List.length_singleton,HJ.o,Q];rw [show ((L.head+(j+1):Nat):Int)=(L.head:Int)+(j:Int)+1 by omega,show ((j+1:Nat):Int)=(j:Int)+1 by omega]
   exact⟨(X.o.trans ⟨pR,λk R _ r _=>(fa.block k (aq r)).trans r⟩).trans hkx,HKc.o.t ⟨(ey.block _ (by omega) (by omega)).trans (fa.block _ (by omega)),(ey.block _ (by omega) (by omega)).trans (fa.block _ (by omega))⟩,hIX⟩
  .have dY:(Y.1 == 0)=false:=(by rw [fJ];exact kY);have UD:=yh kY;clear kY
   gi_wp2
   have ey:aa (λk=>k=w.heap.size+1) u (u.setCell ⟨w.heap.size+1,0,none⟩ (.int .i64 Y.1)):=aL (F:=λk=>k=w.heap.size+1) u rfl 0 _;have P:GT w (u.setCell ⟨w.heap.size+1,0,none⟩ (.int .i64 Y.1)) F p s m q.heap.size L S d ((a ++ [y]).map Fin.val) cR:=by
    have J:=VJ.o;have I8:cR+j+1<=cR+((a ++ [y]).map Fin.val).length:=(by rw [GU,ed,List.length_singleton,HJ.o];omega);refine⟨by rw [J];exact UD.o,by rw [J];exact(VA.o.Fk ey (Fh iK.o (by omega) (by omega))).le I8,by rw [J];exact(heap_setCell_same _ _ 0 _ _ _ Ur.o.2).trans (by simp),HKw.o.trans ey (λ_ h=> .inr (by omega)),by have:=MH.o.sz;have:=X.o.size;have:=ey.size;omega⟩
   exact⟨X.o.trans ((KeepsOthers.setCell _ _ _).from _),rfl,P⟩
 case done=>
  intro D xs W hD oH hI Kf;have GU:xs.map Fin.val=List.range C:=oH;rw [GU] at hI;have UH:=E.o.aw hI.kp hF;have c0:W.cell? (aD w.heap.size 0)=some (pQ l):=aM hI.bx.1;have c1:W.cell? ⟨w.heap.size+1,0,none⟩=some (iV 0):=aM hI.bx.2;obtain⟨g1,c7,g7,MH,HlW⟩:=eK (ae hI.bx.2 0) UH.c7 (UH.fz 7) (yh hI) (yh UH);clear hI UH GU oH;have KC:¬FC F q.heap.size m W l:=λh=>by
   rcases h.1 with h|h
   .exact hF h
   .omega
  have ff:aa (λk=>k=l) W (W.setCell ⟨l,7,none⟩ (.int .i64 ((L.head:Int)+(C:Int)))):=aL (F:=λk=>k=l) W rfl 7 _;have aY:aa (λk=>k=w.heap.size+1) (W.setCell ⟨l,7,none⟩ (.int .i64 ((L.head:Int)+(C:Int)))) ((W.setCell ⟨l,7,none⟩ (.int .i64 ((L.head:Int)+(C:Int)))).setCell ⟨w.heap.size+1,0,none⟩ (.int .i64 0)):=aL (F:=λk=>k=w.heap.size+1) _ rfl 0 _;have iN:=(MH.o.dk.Fk ff KC).Fk aY (Fh iK.o (by omega) (by omega));have cu:cW ((W.setCell ⟨l,7,none⟩ (.int .i64 ((L.head:Int)+(C:Int)))).setCell ⟨w.heap.size+1,0,none⟩ (.int .i64 0)) l p {L with head:=L.head+C}:=cW.aw (G:=λk=>k=w.heap.size+1) ((heap_setCell_same _ _ 7 _ _ _ HlW.o).trans (by simp)) aY (by omega);have he1:((W.setCell ⟨l,7,none⟩ (.int .i64 ((L.head:Int)+(C:Int)))).setCell ⟨w.heap.size+1,0,none⟩ (.int .i64 0)).heap[w.heap.size+1]? =some (.cells #[.int .i64 0] 49 (0,0)):=(heap_setCell_same _ _ 0 _ _ _ ((ff.block _ (aq MH.o.bx.2) (by omega)).trans MH.o.bx.2)).trans (by simp);have aaf:aa (λk=>F k\/k=l) w ((W.setCell ⟨l,7,none⟩ (.int .i64 ((L.head:Int)+(C:Int)))).setCell ⟨w.heap.size+1,0,none⟩ (.int .i64 0)):=((MH.o.kp.mono (λ_ h=> .inl h)).trans ff (λ_ h=> .inl (.inr h))).trans aY (λ_ h=> .inr (by omega));have hDl:=aq Kf;have N:=(aY.block _ (by have:=ff.size;omega) (by omega)).trans ((ff.block _ hDl (by omega)).trans Kf);have dE:=j4 ff.size aY.size;obtain⟨WZ,hWZ⟩:∃WZ,((W.setCell ⟨l,7,none⟩ (.int .i64 ((L.head:Int)+(C:Int)))).setCell ⟨w.heap.size+1,0,none⟩ (.int .i64 0))=WZ:=⟨_,rfl⟩;rw [hWZ] at iN cu he1 aaf N dE;have I8:cR+(List.range C).length<=cR+17:=by rw [List.length_range];omega
  obtain⟨T,PK,HWZ,RV⟩:=Bo (MG iK.o (iN.le I8) cu aaf he1 N (by omega) ee jD (by omega) (by omega)) MH.o.ok hWZ N;clear iN cu he1 aaf N ff aY dE hWZ;go_wp2;rw [HWZ.o];refine⟨by simp, .inl ⟨_,_,rfl,run_takeDeferred RV.o,?_⟩⟩;refine⟨_,fY rfl _ _ (w.heap.size+1) 0 rfl T.o.1,?_⟩;have J:=PK.o;rw [zy] at J T;unfold LG.append;rw [UF,HR.o,Yg,aB (by decide),aB (by rw [J];decide)];exact⟨rfl,T.o.2⟩
 case stop=>
  rintro D c a W hD ⟨j,hj,l5⟩ ⟨rfl,P⟩ Kf;have GU:a.map Fin.val=List.range (j+1):=l5;rw [GU] at P;have UH:=E.o.aw P.kp hF;have UB:=P.no;have T:=yh (MG iK.o (P.dk.le (by rw [List.length_range];omega:cR+(List.range (j+1)).length<=cR+17)) UH (P.kp.mono (λ_ h=> .inl h)) P.er Kf (by omega) ee jD (by omega) (by omega));rw [zy] at T UB;have Px:cU L S s d C=cU L S s d (j+1):=gD UB C (by omega);obtain⟨HTo,HNn⟩:=bU Px UB;clear P UH UB Px
  gi_wp2
  refine⟨by simp, .inl ⟨_,_,rfl,run_takeDeferred Kf,?_⟩⟩;refine⟨_,fY rfl _ _ (w.heap.size+1) _ rfl T.o.1,?_⟩;unfold LG.append;rw [UF,HR.o,Yg,aB (by decide),HTo.o,aG HNn.o];exact⟨rfl,T.o.2⟩
end
def Ac {w:World} {F:Nat->Prop} {p s l m:Nat} {S:DS} {L:LG} (h:ax w F p s S m) (g:cW w l p L) (n:L.Ok s) (q:¬F l) (a:Option Addr) (x k:Nat) (d:List Int) (i:Src w a x d) (UA:∀y,a=some y->0<x->¬F y.block) (hd:Bytes d) (j:x<=k) (r:x<=140737488355328) (aU:S.puts.length+100<=4000000000000):
  Calls prog 174 #[pQ l, .slice a x k] w λe w'=>e= .returned (iV (L.append S s d).1)/\ax w' (more F w w') p s (L.append S s d).2.1 (m+17)/\cW w' l p (L.append S s d).2.2/\aa (λk=>F k\/k=l) w w':=by
 by_cases c:L.fW S x=0
 .have jJ:=(jK c).2.1;obtain⟨b,o,rfl⟩:=cX i jJ;exact Oh h g n q b o x k d i (UA _ rfl jJ) hd j c aU
 .refine(NR h.old g n a x k r c).mono ?_;rintro e w' ⟨rfl,f⟩;unfold LG.append;rw [i.1,aG c];exact⟨rfl,((h.later f).more).le (by omega),g.later f,aa.ah _ f⟩
end B
end
section
def um:∀{ns ms:CM} {x:Nat×List Int},x∈CM.bT ms ns->x∈ms\/x∈ns
 | [],_,_,h=> .inl h
 |q :: qs,ms,x,h=>by
  rcases um (ns:=qs) (ms:=CM.put ms q.1 q.2) h with h|h
  .rcases CM.qY h with e|h
   .exact .inr (e▸List.mem_cons_self)
   .exact .inl h
  .exact .inr (List.mem_cons_of_mem _ h)
def vG {s:Nat} (h:L.Ok s) (S:DS) (d:List Int):(L.append S s d).2.2.Ok s/\(L.append S s d).2.2.begun=L.begun:=by
 unfold LG.append;split
 .exact⟨h,rfl⟩
 .rename_i a;obtain⟨_,_,_,b,c⟩:=jK (Decidable.byContradiction a);split
  .exact⟨h,rfl⟩
  .have:=h.th;exact⟨⟨h.s,h.n1,h.n2,h.ep,h.top,by show L.tail<=L.head+_;omega,by show L.head+_<=L.tail+L.n;omega,by show L.head+_<=1073742080;omega,λ_=>by show L.head+_<=1073741824;omega⟩,rfl⟩
def qA (h:∀q∈ms,Bytes q.2):Bytes (cw ms):=by
 unfold cw;refine(iR _ _).append (Bytes.append ?_ ?_)
 .intro v b;obtain⟨q,_,a⟩:=List.mem_flatMap.1 b;exact iR _ _ v a
 .intro v b;obtain⟨q,c,a⟩:=List.mem_flatMap.1 b;exact h q c v a
def zL.form {B:Nat} {w:World} {l:List Int} {e:Ending} (h:zL B w l e) (n:0<l.length):∃g c,e= .returned (.slice (some (aD g 0)) l.length c)/\B<=g/\Src w (some (aD g 0)) l.length l/\l.length<=c:=by
 obtain⟨v,rfl,h⟩:=h;have h0:=h;obtain⟨j6,⟨e,j⟩|⟨g,a,cur,rfl,d,m,k⟩⟩:=h
 .omega
 .obtain⟨i,c',f,RE,b,_⟩:=ay.fe h0 (by intro e;cases e);cases f;refine⟨g,a,rfl,d,?_,?_⟩
  .exact b.src
  .have:=b.le;simpa [bs] using this
def me (S:DS) (s:Nat):(S.fl s).2.puts.length<=S.puts.length:=by
 unfold DS.fl;split
 .exact bS _
 .exact dV _
def Ad (S:DS) (s f:Nat) (x:Int):(cZ S s f x).2.puts.length<=S.puts.length+1:=by
 unfold cZ;split
 .exact Nat.le_succ _
 .split
  .exact Nat.le_succ _
  .split
   .exact ji _ _ _ _ _
   .exact j4 (me _ _) (ji _ _ _ _ _)
def Ae (L:LG) (S:DS) (s:Nat):(L.trim S s).2.1.puts.length<=S.puts.length+2:=by
 have a:=nK L S s;unfold LG.trim;split
 .show (L.sync S s).2.puts.length<=_;omega
 .split
  .show (L.sync S s).2.puts.length<=_;omega
  .have b:=Ad (L.sync S s).2 s L.f ((L.ep:Int)*4294967296+(L.head:Int));split
   .show (cZ _ _ _ _).2.puts.length<=_;omega
   .show (cZ _ _ _ _).2.puts.length<=_;omega
def Af (G:SG) (S:DS) (s:Nat):(G.check S s).2.1.puts.length<=S.puts.length+G.ov.length+3:=by
 have a:=nK G.L S s;have b:=eF (G.L.sync S s).2 s G.y.home G.ov;have c:=Ae G.L (aE (G.L.sync S s).2 s G.y.home G.ov).2 s;unfold SG.check;split
 .show (G.L.sync S s).2.puts.length<=_;omega
 .split
  .show (aE _ _ _ _).2.puts.length<=_;omega
  .split
   .show (LG.trim _ _ _).2.1.puts.length<=_;omega
   .show (LG.trim _ _ _).2.1.puts.length<=_;omega
def it.reF {w:World} {F:Nat->Prop} {p s q l m:Nat} {S:DS} {G:SG} (h:it w F p s c q l m S G) (a:∀k,F k->F2 k) (bq:∀k,F2 k->k<w.heap.size) (nq:¬F2 q) (b:¬F2 l) (e:¬F2 m):it w F2 p s c q l m S G:=
   ⟨h.d.mono a bq,h.st,h.lp,h.ch,nq,b,e,h.ql,h.qm,h.lm,h.lk,h.bg,h.hs,h.kb⟩
def mJ (G:SG) (S:DS) (s:Nat):(G.check S s).2.2.y=G.y:=by
 unfold SG.check;split
 .rfl
 .split
  .rfl
  .split <;> rfl
section
variable {w w':World} {F:Nat->Prop} {p s cR q l m n:Nat} {S:DS} {G:SG} {cs:CM}
def KJ (h:it w F p s cR q l m S G) (N:Ch w n cs) (KC:¬F n) (_hnq:n≠q) (mr:n≠l) (xz:n≠m) (ph:∀x∈cs,x.1<G.y.blocks) (UI:cs.length<=16) (dC:S.fL) (aU:S.puts.length+5000<=4000000000000):
  Calls prog 139 #[pQ q, .map (some n)] w λe w'=>e= .returned (iV (G.bI S s cs).1)/\it w' (more F w w') p s (cR+19) q l m (G.bI S s cs).2.1 (G.bI S s cs).2.2/\Ch w' n cs/\aa (λk=>F k\/k=l\/k=m) w w':=by
 have O:=Oa (λx j=>(N.len x j).2.1);have BM:=qA (λx j=>(N.len x j).2.2);have h1:=Kx N;have U:=λ(w1:World) (ar:bW w w1)=>Gn (h.later ar).d.old (h.later ar).lp h.lk;obtain⟨c1,H,HC,iK,hqw,hlw,Wk,hnw,Bc,KA,xU⟩:=L3 h.st.c1 h N h.d.lt h.st.lt h.lp.lt h.ch.lt N.lt h.ql h.qm h.lm;obtain⟨R,f⟩:=bQ (G.bI S s cs);rw [<-f];unfold SG.bI at f;obtain⟨D,hD⟩:=bQ (cw cs);rw [<-hD] at f O BM h1;clear hD;have Q:=(λ(r:World) (U:it r F p s cR q l m S G)=>CX U dC (by omega));have vq:0<D.length:=by omega
 have nT:=λ(w1:World) (a:Option Addr) (c:Nat)=>Ef a D.length c w1 (by omega);have sU:(D.length+491) / 492=dh D.length:=rfl;rw [sU] at nT;have apl:D.length<=8258:=by omega
 clear sU O;go_in;go_wp2_with fail;by_cases X:(G.L.room S).2=0
 .rw [aB (λh=>h X)] at f;rw [X] at U;clear X;have UJ:G.roomy S D.length=decide ((dh D.length:Int)<=(G.L.room S).1):=rfl;refine h1.mono ?_;rintro e w1 ⟨⟨B1,bO,UJ⟩,ar⟩;obtain⟨g,c,rfl,hg,kZ,XK⟩:=UJ.form vq;obtain⟨c1,hr,cQ,Ji⟩:=cO ((H.later ar).st.c1) (U w1 ar) ar kZ;have hgw:w.heap.size<=g:=by omega
  have py:g<w1.heap.size:=kZ.old _ rfl vq;clear h1 U UJ kZ ar;go_wp2_with fail;refine bN hr λr bd=>?_;have ev:=bd.size;have dP:=cQ.trans (bd.mono cQ.size);have adV:=(Ji.later bd);clear hr bd Ji;go_wp2_with fail;refine(nT r _ _).mono ?_;by_cases P:G.roomy S D.length=true
  .have k2':¬(G.L.room S).1<(dh D.length:Int):=(by rw [UJ] at P;have:=of_decide_eq_true P;omega);have wP:G.made S s D.length=(0,S,G):=(by unfold SG.made;rw [aG P]);rw [wP] at f;rw [aB (λh=>h rfl)] at f;clear h N P UJ wP Q;generalize (G.L.room S).1=E1 at*;rintro e wz ⟨rfl,dD⟩;have T:=dD.symm;subst T;clear dD nT;have gZ:=(H.later dP);have Z8:=(HC.later dP);have aiZ:¬F g:=λI=>by have:=iK _ I;omega
   have J:∀k,F k->F k\/(w.heap.size<=k/\k<r.heap.size):=λk b=> .inl b;have ig:=(aa.ah (λk=>F k\/k=l\/k=m) dP);have Jj:=B.Ac gZ.d gZ.lp gZ.lk gZ.nl (some (aD g 0)) D.length c D adV (λy hy _ I=>by
    cases hy;exact aiZ I) BM XK (by omega) (by omega)
   have Se:=vG gZ.lk S D;have cA:=gZ.st.c1;obtain⟨A,hA⟩:=bQ (G.L.append S s D);rw [<-hA] at Jj Se f;clear hA;by_cases t:A.1=0
   .rw [aB (λh=>h t)] at f;have dA:(A.1 != 0)=false:=(by rw [t];rfl);have z:=f;clear f t;go_wp2_with fail;refine pr Jj λw3 i ip aZ=>?_;obtain⟨lB,fK,Cn,M8⟩:=cO aZ.size (gZ.st.aw aZ (λe=>e.elim gZ.nq Bc)) (gZ.ch.aw aZ (λe=>e.elim gZ.nm (λe=>xU e.symm))) (Z8.aw aZ (λe=>e.elim KC mr));have C:=CW Cn M8 (λe=>xz e.symm);have c7:=fK.c7;have u:=(aH i (aH ip (aH aZ (aH fK M8))));clear Jj i ip aZ fK Cn M8;go_wp2_with fail;refine fR C λw4 Zl dW=>?_;have ws:=dW.size;have v:(it w4 (more F w w4) p s (cR+19) q l m A.2.1 {G with L:=A.2.2,ov:=CM.bT G.ov cs}/\Ch w4 n cs/\aa (λk=>F k\/k=l\/k=m) w w4):=by
     refine⟨⟨((u.1.le (by omega:cR+17<=cR+19)).aw dW (λk b e=>?_)).mono (λk b=>?_) (cJ (F:=F) (w:=w) iK (by omega)),u.2.2.2.1.aw dW KA,u.2.1.aw dW xU,Zl,λe=>e.elim H.nq (λe=>by omega),λe=>e.elim H.nl (λe=>by omega),λe=>e.elim H.nm (λe=>by omega),Bc,KA,xU,Se.1,Se.2.trans gZ.bg,gZ.hs,λx j=>?_⟩,u.2.2.2.2.aw dW xz,(ig.trans u.2.2.1 (λk b=>?_)).trans dW (λ_ e=> .inl (.inr (.inr e)))⟩
     .subst e;exact b.elim gZ.nm (λh=>by omega)
     .rcases b with b|b
      .exact(J k b).elim .inl (λh=> .inr ⟨h.1,by omega⟩)
      .exact .inr ⟨by omega,by omega⟩
     .rcases um j with j|j
      .exact gZ.kb x j
      .exact ph x j
     .rcases b with b|b
      .exact(J k b).elim (λh=> .inl (.inl h)) (λh=> .inr h.1)
      .exact .inl (.inr (.inl b))
    clear C Zl dW;go_wp2;go_ret;rw [z];exact⟨rfl,v⟩
   .rw [aG t] at f;have dA:(A.1 != 0)=true:=(by rw [gB];exact t);have z:=f;clear f t;go_wp2_with fail;refine pr Jj λw3 i ip aZ=>?_;have lB:=aZ.size;have v:(it w3 (more F w w3) p s (cR+19) q l m A.2.1 {G with L:=A.2.2}/\Ch w3 n cs/\aa (λk=>F k\/k=l\/k=m) w w3):=by
     refine⟨⟨(i.le (by omega:cR+17<=cR+19)).mono (λk b=>?_) (cJ (F:=F) (w:=w) iK (by omega)),gZ.st.aw aZ (λe=>e.elim gZ.nq Bc),ip,gZ.ch.aw aZ (λe=>e.elim gZ.nm (λe=>xU e.symm)),λe=>e.elim H.nq (λe=>by omega),λe=>e.elim H.nl (λe=>by omega),λe=>e.elim H.nm (λe=>by omega),Bc,KA,xU,Se.1,Se.2.trans gZ.bg,gZ.hs,gZ.kb⟩,Z8.aw aZ (λe=>e.elim KC mr),ig.trans aZ (λk b=>?_)⟩
     .rcases b with b|b
      .exact(J k b).elim .inl (λh=> .inr ⟨h.1,by omega⟩)
      .exact .inr ⟨by omega,b.2⟩
     .rcases b with b|b
      .exact(J k b).elim (λh=> .inl (.inl h)) (λh=> .inr h.1)
      .exact .inl (.inr (.inl b))
    clear Jj i ip aZ;go_wp2;go_ret;rw [z];exact⟨rfl,v⟩
  .have k2':(G.L.room S).1<(dh D.length:Int):=(by rw [UJ] at P;exact Decidable.byContradiction (λh=>P (decide_eq_true (by omega))));have wP:G.made S s D.length=G.check S s:=(by unfold SG.made;rw [aB P]);rw [wP] at f;have PF:=Af G S s;have hcy:=mJ G S s;have hom:=h.ch.small;obtain⟨K,hK⟩:=bQ (G.check S s);rw [<-hK] at f PF hcy Q;clear h N P UJ wP hK;generalize (G.L.room S).1=E1 at*;rintro e r ⟨rfl,dD⟩;have T:=dD.symm;subst T;clear dD nT;have M:=Q r (H.later dP);by_cases Y:K.1=0
   .rw [aB (λh=>h Y)] at f;have dK:(K.1 != 0)=false:=(by rw [Y];rfl);clear Y;go_wp2_with fail;refine fR M λw5 Sf dX=>?_;have pR:=dX.size;have gZ:=Sf;have ai0:¬more F r w5 g:=λI=>I.elim (λI=>by have:=iK _ I;omega) (λI=>by omega);have ai1:=(adV.o9 dX (λy hy _ e=>by
     cases hy;rcases e with e|e|e
     .have:g<w.heap.size:=iK _ e;omega
     .have:g=l:=e;omega
     .have:g=m:=e;omega))
    have Z:=((HC.later dP).aw dX (λe=>by
     rcases e with e|e|e
     .exact KC e
     .exact mr e
     .exact xz e))
    have adX:¬more F r w5 n:=λe=>e.elim KC (λe=>by omega);have Sg:∀k,more F r w5 k->F k\/(w.heap.size<=k/\k<w5.heap.size):=λk b=>b.elim .inl (λh=> .inr ⟨by omega,h.2⟩);have lS:=((aa.ah (λk=>F k\/k=l\/k=m) dP).trans dX (λ_ h=> .inl h));have ai2:∀x∈cs,x.1<K.2.2.y.blocks:=(by rw [hcy];exact ph);clear M Sf dX;have Jj:=B.Ac gZ.d gZ.lp gZ.lk gZ.nl (some (aD g 0)) D.length c D ai1 (λy hy _ I=>by
     cases hy;exact ai0 I) BM XK (by omega) (by omega)
    have Se:=vG gZ.lk K.2.1 D;have cA:=gZ.st.c1;obtain⟨A,hA⟩:=bQ (K.2.2.L.append K.2.1 s D);rw [<-hA] at Jj Se f;clear hA;by_cases t:A.1=0
    .rw [aB (λh=>h t)] at f;have dA:(A.1 != 0)=false:=(by rw [t];rfl);have z:=f;clear f t;go_wp2_with fail;refine pr Jj λw6 i ip aZ=>?_;obtain⟨lB,fK,Cn,M8⟩:=cO aZ.size (gZ.st.aw aZ (λe=>e.elim gZ.nq Bc)) (gZ.ch.aw aZ (λe=>e.elim gZ.nm (λe=>xU e.symm))) (Z.aw aZ (λe=>e.elim adX mr));have C:=CW Cn M8 (λe=>xz e.symm);have c7:=fK.c7;have u:=(aH i (aH ip (aH aZ (aH fK M8))));clear Jj i ip aZ fK Cn M8;go_wp2_with fail;refine fR C λw7 Zl dW=>?_;have ws:=dW.size;have v:(it w7 (more F w w7) p s (cR+19) q l m A.2.1 {K.2.2 with L:=A.2.2,ov:=CM.bT K.2.2.ov cs}/\Ch w7 n cs/\aa (λk=>F k\/k=l\/k=m) w w7):=by
      refine⟨⟨((u.1.le (by omega:(cR+2)+17<=cR+19)).aw dW (λk b e=>?_)).mono (λk b=>?_) (cJ (F:=F) (w:=w) iK (by omega)),u.2.2.2.1.aw dW KA,u.2.1.aw dW xU,Zl,λe=>e.elim H.nq (λe=>by omega),λe=>e.elim H.nl (λe=>by omega),λe=>e.elim H.nm (λe=>by omega),Bc,KA,xU,Se.1,Se.2.trans gZ.bg,gZ.hs,λx j=>?_⟩,u.2.2.2.2.aw dW xz,(lS.trans u.2.2.1 (λk b=>?_)).trans dW (λ_ e=> .inl (.inr (.inr e)))⟩
      .subst e;exact b.elim gZ.nm (λh=>by omega)
      .rcases b with b|b
       .exact(Sg k b).elim .inl (λh=> .inr ⟨h.1,by omega⟩)
       .exact .inr ⟨by omega,by omega⟩
      .rcases um j with j|j
       .exact gZ.kb x j
       .exact ai2 x j
      .rcases b with b|b
       .exact(Sg k b).elim (λh=> .inl (.inl h)) (λh=> .inr h.1)
       .exact .inl (.inr (.inl b))
     clear C Zl dW;go_wp2;go_ret;rw [z];exact⟨rfl,v⟩
    .rw [aG t] at f;have dA:(A.1 != 0)=true:=(by rw [gB];exact t);have z:=f;clear f t;go_wp2_with fail;refine pr Jj λw6 i ip aZ=>?_;have lB:=aZ.size;have v:(it w6 (more F w w6) p s (cR+19) q l m A.2.1 {K.2.2 with L:=A.2.2}/\Ch w6 n cs/\aa (λk=>F k\/k=l\/k=m) w w6):=by
      refine⟨⟨(i.le (by omega:(cR+2)+17<=cR+19)).mono (λk b=>?_) (cJ (F:=F) (w:=w) iK (by omega)),gZ.st.aw aZ (λe=>e.elim gZ.nq Bc),ip,gZ.ch.aw aZ (λe=>e.elim gZ.nm (λe=>xU e.symm)),λe=>e.elim H.nq (λe=>by omega),λe=>e.elim H.nl (λe=>by omega),λe=>e.elim H.nm (λe=>by omega),Bc,KA,xU,Se.1,Se.2.trans gZ.bg,gZ.hs,gZ.kb⟩,Z.aw aZ (λe=>e.elim adX mr),lS.trans aZ (λk b=>?_)⟩
      .rcases b with b|b
       .exact(Sg k b).elim .inl (λh=> .inr ⟨h.1,by omega⟩)
       .exact .inr ⟨by omega,b.2⟩
      .rcases b with b|b
       .exact(Sg k b).elim (λh=> .inl (.inl h)) (λh=> .inr h.1)
       .exact .inl (.inr (.inl b))
     clear Jj i ip aZ;go_wp2;go_ret;rw [z];exact⟨rfl,v⟩
   .rw [aG Y] at f;have dK:(K.1 != 0)=true:=(by rw [gB];exact Y);have z:=f;clear Y f;go_wp2_with fail;refine fR M λw5 Sf dX=>?_;have pR:=dX.size;have v:(it w5 (more F w w5) p s (cR+19) q l m K.2.1 K.2.2/\Ch w5 n cs/\aa (λk=>F k\/k=l\/k=m) w w5):=by
     have o:=Sf.reF (F2:=more F w w5) (λk b=>b.elim .inl (λh=> .inr ⟨by omega,h.2⟩)) (cJ (F:=F) (w:=w) iK (by omega)) (λe=>e.elim H.nq (λe=>by omega)) (λe=>e.elim H.nl (λe=>by omega)) (λe=>e.elim H.nm (λe=>by omega));refine⟨⟨o.d.le (by omega),o.st,o.lp,o.ch,o.nq,o.nl,o.nm,o.ql,o.qm,o.lm,o.lk,o.bg,o.hs,o.kb⟩,(HC.later dP).aw dX (λe=>?_),(aa.ah (λk=>F k\/k=l\/k=m) dP).trans dX (λ_ h=> .inl h)⟩;rcases e with e|e|e
     .exact KC e
     .exact mr e
     .exact xz e
    clear M Sf dX;go_wp2;go_ret;rw [z];exact⟨rfl,v⟩
 .rw [aG X] at f;have d1:((G.L.room S).2 != 0)=true:=by rw [gB];exact X
  have z:=f;clear X f h N nT BM;generalize (G.L.room S).2=E at*;generalize (G.L.room S).1=E1 at*;refine h1.mono ?_;rintro e w1 ⟨⟨B1,bO,UJ⟩,ar⟩;obtain⟨g,c,rfl,hg,kZ,XK⟩:=UJ.form vq;have c1:=(H.later ar).st.c1;have hr:=U w1 ar;have cQ:=ar;clear h1 U UJ kZ ar;go_wp2_with fail;refine bN hr λr bd=>?_;have W:=cQ.trans (bd.mono cQ.size);have v:(it r (more F w r) p s (cR+19) q l m S G/\Ch r n cs/\aa (λk=>F k\/k=l\/k=m) w r):=⟨H.GS ((H.d.later W).more.le (by omega)) (H.st.later W) (H.lp.later W) (H.ch.later W) H.lk H.bg H.kb,HC.later W,aa.ah _ W⟩;clear hr bd W;go_wp2;go_ret;rw [z];exact⟨rfl,v⟩
end
end
section
section
variable {w w':World} {F:Nat->Prop} {p s cR q l m t n:Nat} {S:DS} {G:SG} {T:TG}
def Oj (h:it w F p s cR q l m S G) (aU:S.puts.length+1<=4000000000000):
  Calls prog 75 #[pQ q] w λe w'=>e= .returned (iV (G.L.sync S s).1)/\it w' F p s cR q l m (G.L.sync S s).2 G/\aa F w w':=by
 have c:=B.zP h.d h.lp h.nl aU;have g:=h.st.c1;generalize G.L.sync S s=Z at*;go_in;go_wp2_with fail;refine pr c λw1 hd f a=>?_;have b:(it w1 F p s cR q l m Z.2 G/\aa F w w1):=⟨⟨hd,h.st.aw a h.nq,f,h.ch.aw a h.nm,h.nq,h.nl,h.nm,h.ql,h.qm,h.lm,h.lk,h.bg,h.hs,h.kb⟩,a⟩;go_wp2;go_ret;exact⟨rfl,b⟩
def TG.news (T:TG) (G:SG) (S:DS):CM:=T.puts.filter λx=> !decide (x.2=G.block S x.1)
def TG.bI (T:TG) (G:SG) (S:DS) (s:Nat):Int×DS×SG×TG:=
 if T.state G S≠0 then (T.state G S,S,G,T) else
 if T.news G S= [] then (0,S,{G with busy:=false},T.close) else
 if (G.bI S s (T.news G S)).1≠0 then ((G.bI S s (T.news G S)).1,(G.bI S s (T.news G S)).2.1,(G.bI S s (T.news G S)).2.2,T)
 else (0,(G.bI S s (T.news G S)).2.1,{(G.bI S s (T.news G S)).2.2 with busy:=false},T.close)
end
end
def CM.Ol (h:CM.Ok ms) (P:Nat×List Int->Bool):CM.Ok (ms.filter P):=List.Pairwise.filter P h
def CM.get_filter (h:CM.Ok ms) (P:Nat×List Int->Bool) (k:Nat):CM.get (ms.filter P) k=(CM.get ms k).filter (λc=>P (k,c)):=by
 induction ms with
 |nil=>rfl
 |cons x xs d=>
  have b:=List.pairwise_cons.1 h;obtain⟨j,c⟩:=x;rw [CM.l6];by_cases e:j=k
  .subst e;rw [aG rfl];cases a:P (j,c)
   .rw [List.filter_cons_of_neg (by rw [a];decide),d b.2,CM.kT (λy f e=>by have:=b.1 y f;simp only at this;omega)];simp [a,Option.filter]
   .rw [List.filter_cons_of_pos a,CM.l6,aG rfl];simp [a,Option.filter]
  .rw [aB e];cases a:P (j,c)
   .rw [List.filter_cons_of_neg (by rw [a];decide),d b.2]
   .rw [List.filter_cons_of_pos a,CM.l6,aB e,d b.2]
def jO (ms X:CM) (UK:Nat->List Int) (left:Lit->Bool):Prop:=∀k,CM.get X k=if left (kk k)=false then (CM.get ms k).filter (λc=> !decide (c=UK k)) else none
def jO.start {left:Lit->Bool} (h:∀k c,CM.get ms k=some c->left (kk k)=true):jO ms [] UK left:=λk=>by
 show none=_;split
 .rename_i e;cases a:CM.get ms k with
  |none=>rfl
  |some c=>rw [h k c a] at e;cases e
 .rfl
def jO.done {left:Lit->Bool} (h:jO ms X UK left) (b:CM.Ok X) (a:CM.Ok ms) (c:∀kl,left kl=false):X=ms.filter (λx=> !decide (x.2=UK x.1)):=by
 refine CM.ext b (CM.Ol a _) (λk=>?_);rw [h k,aG (c _),CM.get_filter a]
def jO.aw {left:Lit->Bool} {c:List Int} (h:jO ms X UK left) (b:CM.get ms k=some c) (d:left (kk k)=true) (a:c=UK k):jO ms X UK (λz=>left z && !z.sameKey (kk k)):=λj=>by
 rw [h j];show _=if (left (kk j) && !(kk j).sameKey (kk k))=false then _ else _;rw [lE];by_cases e:j=k
 .subst e;simp [b,d,a,Option.filter]
 .simp [e]
def jO.put {left:Lit->Bool} {c:List Int} (h:jO ms X UK left) (a:CM.Ok X) (d:CM.get ms k=some c) (b:c≠UK k):jO ms (CM.put X k c) UK (λz=>left z && !z.sameKey (kk k)):=λj=>by
 rw [CM.kE _ _ _ _ a,h j];show _=if (left (kk j) && !(kk j).sameKey (kk k))=false then _ else _;rw [lE];by_cases e:j=k
 .subst e;simp [d,b,Option.filter]
 .simp [e]
section
def lK {P:Program} {k:TypeId} {R:Value->Option (DataW Value×List MemPlace)} {w w':World} {b r n:Nat} {D:DataW Value} {left:Lit->Bool} {em:Nat} (h:w.ranges P k R b r n D left em) (g:w'.heap[b]? =w.heap[b]?) (i:w'.heap[r]? =w.heap[r]?):w'.ranges P k R b r n D left em:=by
 obtain⟨f,a,c,d,e,m,l,p,j,o,rest⟩:=h;exact⟨f,a,c,d,e,g.trans m,l,p,j,i.trans o,rest⟩
section
variable {w w':World} {F:Nat->Prop} {p s cR q l m t n:Nat} {S:DS} {G:SG} {T:TG}
def GV {D:DataW Value} (h:it w F p s cR q l m S G) (ht:mH w F q l m t n G T) (hn:vx w n T.puts D) (hf:S.fuse≠0) (aU:S.puts.length+1<=4000000000000):
  Calls prog 138 #[pQ t] w λe w'=>e= .returned (.tuple #[.map (some w.heap.size),iV 0])/\Ch w' w.heap.size (T.news G S)/\B.ax w' F p s S (cR+T.puts.length)/\aa F w w':=by
 obtain⟨mr,RR,HS,HT,H,iK,B9,hm⟩:=xq hn.lt jm (yh h) (yh ht) (yh hn) (yh h.d.lt) ( @run_makeMap prog) (Ch.made w);obtain⟨wM,UE⟩:=bQ (w.alloc (.map #[] 0));rw [<-UE] at hm;have K:bW w wM:=by rw [UE];exact aJ _ _
 have Y:wM.heap.size=w.heap.size+1:=by rw [UE,World.size_alloc]
 have c1:=(ht.later K).c1;have HwM:=yh UE;have HM:=yh hm;have I:=yh K;subst UE;clear h ht hn hm K;go_in;go_wp2_with (at_range;refine wpList_range_own _ rfl _ 93 rfl 3 101 gk underlying93 Ra n T.puts.length D rfl (H.o.agree (I.o.block n mr)).own ?_;intro w0 pD uU yD;go_frame);have Bi:Yh (bW w w0):=I.o.trans (((bi _ _).grown uU (bS _) (λj E=>by cases E)).mono (by omega));have R:=yh (HM.o.agree (uU.block _ HM.o.lt (λe=>by cases e)));rw [Y] at pD yD;clear uU c1 B9 HM I Y HwM;go_loopw [5] (λ_ wr=>∃(left:Lit->Bool) (em u:Nat) (X:CM),wr.ranges prog 3 Ra n (w.heap.size+1) T.puts.length D left em/\Ch wr w.heap.size X/\jO T.puts X (G.block S) left/\B.ax wr F p s S (cR+u)/\u+em<=T.puts.length/\aa F w wr/\w.heap.size+2<=wr.heap.size)
    (λ_ wr=>wr.rangeLeft n (w.heap.size+1))
 case atStart=>
  exact⟨_,_,0, [],pD,R.o,jO.start (λk c hk=>(H.o.at' k c hk).1),HS.o.d.later Bi.o,by rw [H.o.siz];omega,aa.ah _ Bi.o,by omega⟩
 case round=>
  clear pD Bi R yD;obtain⟨left,em,u,X,mR,U,JL,hd,hu,eZ,ee⟩:=hrel;go_wp2_with (at_next;refine wpList_next_ranges _ rfl _ rfl 3 gk Ra (Value.int .i64) Value.agg (λkey kl gU=>by obtain⟨x,rfl,_⟩:=Maps.keyOf_int_inv underlying3 gU;exact⟨x,rfl⟩) Kw n (w.heap.size+1) T.puts.length _ _ _ rfl mR ?_ ?_)
  .intro _ we;have W:X=T.news G S:=JL.done U.ok H.o.ok we;have J:=yh (aH (W▸U) (aH (hd.le (by omega:cR+u<=cR+T.puts.length)) eZ));clear mR U JL hd eZ H HS HT W;go_wp2;go_ret2;exact⟨rfl,J.o⟩
  .intro x ca kl yd yp a pE gU A7 N is pf bq fZ bo I2;obtain⟨k,c,rfl,rfl,Yf,tI⟩:=H.o.meets gU N is;have nR:=H.o.len _ (CM.get_mem Yf);have ph:k<G.y.blocks:=HT.o.kb _ (CM.get_mem Yf);have GW:=vC HS.o k ph;injection tI with tI;have bw:=eU a nR.2.1;have aW:=eQ nR.2.1;have dL:=cF c;obtain⟨A,hA⟩:=bQ (bs c);rw [<-hA] at tI bw aW dL;have qv:A.length=512:=(by rw [hA,bs,List.length_map,nR.2.1]);have bV:=all_oneCell_toArray dL;subst tI;have Bj:aa (λj=>j=w.heap.size+1) wr a:=⟨fZ.os,fZ.tape,fZ.output,fZ.size,λj E dM=>fZ.block j E (λe=>dM (by injection e))⟩;have cI:=hd.aw Bj (λj E e=>by have:=iK.o _ E;omega);have MF:=U.aw Bj (λe=>by omega);obtain⟨wS,Fx⟩:=bQ ((a.alloc (.cells bm 101)).setCells a.heap.size 0 A);have eh:=bw.2.2;have wL:bW a wS:=(by rw [Fx];exact bw.2.1);have Yk:kf wS 101 a.heap.size c:=(by rw [Fx];exact bw.1);have Wn:=(eZ.trans Bj (λj e=> .inr (by omega))).trans (aa.ah (λ_=>False) wL) (λ_ h=>h.elim);obtain⟨c0,h2,hzS,xC,ZU,HA,g⟩:=nA ((HT.o.asked Wn).c0) (rV (HS.o.asked (cI.later wL) Wn) k ph hf aU) wL.size (yh (aH (lK pf (wL.block _ pf.owns.lt) (wL.block _ pf.lt)) (aH (MF.later wL) (aH Wn Yk)))) (yh Fx) (yh hA) (yh (aH Yf (aH A7 (aH JL nR))));have jD:w.heap.size+2<=a.heap.size:=(by omega);clear gU N is fZ U MF eZ Bj hd cI wL Yk Wn dL Yf pf bw JL A7 bo hA Fx;have hlS:=xC.o.2.2.2.lt
   go_upto_region 5 with (refine wpList_store_mid rfl 101 _ _ rfl a.heap.size 0 A.toArray rfl rfl ?h1 ?h2 bV ?_)
   case h1=>first|simpa using eh|(rw [qv] at eh;simpa using eh)
   have RX:=ZU.o;subst RX;generalize Oc:(a.alloc (.cells bm 101)).setCells a.heap.size 0 A=wS at*;clear Oc eh ZU I2;unfold cV at h2;obtain⟨C,hC⟩:=bQ (bs (G.block S k));rw [<-hC] at h2;have Q:=yh hC;clear hC;go_wp2_with fail;refine fR h2 λi L aZ=>?_;obtain⟨lB,bw,l8,wO⟩:=cO aZ.size (eU i GW) (eQ GW) (cF (G.block S k));rw [<-Q.o] at bw l8 wO;have Z3:C.length=512:=(by rw [Q.o,bs,List.length_map,GW]);have GR:=all_oneCell_toArray wO;have eh:=bw.2.2;obtain⟨f,Wj⟩:=bQ ((i.alloc (.cells bm 101)).setCells i.heap.size 0 C);have Jh:bW i f:=(by rw [Wj];exact bw.2.1);have hzD:=Jh.size;have CV:kf f 101 i.heap.size (G.block S k):=(by rw [Wj];exact bw.1);have uo:∀j,w.heap.size<=j->¬F j:=λj E hf=>by have:=iK.o _ hf;omega
   have Aa:=(xC.o.2.2.2.aw (aZ.block _ hlS (uo _ (by omega)))).aw (Jh.block _ (by omega));have Z:f.rangeAt a.heap.size 0 A:=λj v N=>by
    have:=Aa.news j v (by rw [<-HA.o];exact N);rwa [aN] at this
   have raC:f.rangeAt i.heap.size 0 C:=λj v N=>by
    have:=CV.news j v (by rw [<-Q.o];exact N);rwa [aN] at this
   have Sh:=lK (lK xC.o.1 (aZ.block _ (by omega) HT.o.nn) (aZ.block _ xC.o.1.lt (uo _ (by omega)))) (Jh.block _ (by omega)) (Jh.block _ (by omega));have b:=(xC.o.2.1.aw aZ (uo _ (by omega))).later Jh;have Wo:=(xC.o.2.2.1.trans aZ (λ_ h=> .inl h)).trans (aa.ah (λ_=>False) Jh) (λ_ h=>h.elim);have r:B.ax f F p s S (cR+(u+1)):=L.later Jh;by_cases O:c=G.block S k
   .have dv:(!decide (c=G.block S k))=false:=(by rw [decide_eq_true O];rfl);have J:Yh (f.ranges prog 3 Ra n (w.heap.size+1) T.puts.length D (λz=>left z && !z.sameKey (kk k)) pE/\Ch f w.heap.size X/\jO T.puts X (G.block S) (λz=>left z && !z.sameKey (kk k))/\B.ax f F p s S (cR+(u+1))/\(u+1)+pE<=T.puts.length/\aa F w f/\w.heap.size+2<=f.heap.size):=⟨Sh,b,g.o.2.2.1.aw g.o.1 g.o.2.1 O,r,by omega,Wo,by omega⟩;have M:=g.o.2.2.2.2.1;clear h2 L aZ bw wO Jh CV Aa Sh b Wo r O uo;subst Wj
    go_upto_region 6 with (refine wpList_store_mid rfl 101 _ _ rfl i.heap.size 0 C.toArray rfl rfl ?h3 ?h4 GR ?_)
    case h3=>first|simpa using eh|(rw [Z3] at eh;simpa using eh)
    case h4=>simpa using l8
    go_wp2_with (first|refine wpList_load_mid rfl 101 _ rfl a.heap.size 0 rfl A _ Z underlying101 rfl aW ?_|refine wpList_load_mid rfl 101 _ rfl i.heap.size 0 rfl C _ raC underlying101 rfl l8 ?_|refine rX rfl _ _ _ rfl A C c (G.block S k) HA.o Q.o rfl rfl M GW false dv ?_)
    go_frame
    go_roundw;case rel=>exact⟨_,pE,u+1,X,J.o⟩
    case measure=>rw [J.o.1.left_eq,mR.left_eq];exact bq
   .have dv:(!decide (c=G.block S k))=true:=(by rw [decide_eq_false O];rfl);obtain⟨P,bD,nr,BP,Of⟩:=b.store k g.o.2.2.2.1 c g.o.2.2.2.2.1 g.o.2.2.2.2.2;have R9:(Instr.mapUpdate 93 (.map (some w.heap.size)) (iV (k:Int)) (.agg A.toArray)).run prog f= .ok () P:=(by rw [HA.o];exact bD);have J:Yh (P.ranges prog 3 Ra n (w.heap.size+1) T.puts.length D (λz=>left z && !z.sameKey (kk k)) pE/\Ch P w.heap.size (CM.put X k c)/\jO T.puts (CM.put X k c) (G.block S) (λz=>left z && !z.sameKey (kk k))/\B.ax P F p s S (cR+(u+1))/\(u+1)+pE<=T.puts.length/\aa F w P/\w.heap.size+2<=P.heap.size):=⟨lK Sh (BP.block _ (by omega) (λe=>by omega)) (BP.block _ Sh.lt (λe=>by omega)),nr,g.o.2.2.1.put b.ok g.o.1 O,r.aw BP (λj E e=>uo _ (Nat.le_of_eq e.symm) E),by omega,Wo.trans BP (λj e=> .inr (by omega)),by have:=BP.size;omega⟩;have M:=g.o.2.2.2.2.1;clear h2 L aZ bw wO Jh CV Aa Sh b Wo r O uo bD nr BP Of;subst Wj
    go_upto_region 6 with (refine wpList_store_mid rfl 101 _ _ rfl i.heap.size 0 C.toArray rfl rfl ?h3 ?h4 GR ?_)
    case h3=>first|simpa using eh|(rw [Z3] at eh;simpa using eh)
    case h4=>simpa using l8
    go_wp2_with (first|refine wpList_load_mid rfl 101 _ rfl a.heap.size 0 rfl A _ Z underlying101 rfl aW ?_|refine wpList_load_mid rfl 101 _ rfl i.heap.size 0 rfl C _ raC underlying101 rfl l8 ?_|refine rX rfl _ _ _ rfl A C c (G.block S k) HA.o Q.o rfl rfl M GW true dv ?_);go_roundw;case rel=>exact⟨_,pE,u+1,_,J.o⟩
    case measure=>rw [J.o.1.left_eq,mR.left_eq];exact bq
def GX (h:it w F p s cR q l m S G) (a:mH w F q l m t n G T) (b:S.fuse≠0) (aU:S.puts.length+1<=4000000000000):
  Calls prog 138 #[pQ t] w λe w'=>e= .returned (.tuple #[.map (some w.heap.size),iV 0])/\Ch w' w.heap.size (T.news G S)/\B.ax w' F p s S (cR+T.puts.length)/\aa F w w':=by
 obtain⟨D,c⟩:=a.ch;exact GV h a c b aU
end
end
section
def Ag (G:SG) (S:DS) (s:Nat) (c:CM):(G.bI S s c).2.2.y=G.y:=by
 have a:∀x,(G.made S s x).2.2.y=G.y:=λx=>by
  unfold SG.made;split
  .rfl
  .exact mJ G S s
 unfold SG.bI;split
 .rfl
 .split
  .exact a _
  .split
   .exact a _
   .exact a _
def Ah {T:TG} {G:SG} {S:DS} (h:T.state G S=0):G.L.dead S=false:=by
 cases hd:G.L.dead S
 .rfl
 .exfalso;have:T.bT G S=3:=by unfold TG.bT;rw [hd];rfl
  unfold TG.state at h;rw [this,aG (by decide)] at h;revert h;decide
def GY {T:TG} {G:SG} {S:DS} {x:Nat×List Int} (h:x∈T.news G S):x∈T.puts:=(List.mem_filter.1 h).1
def Wp (T:TG) (G:SG) (S:DS):(T.news G S).length<=T.puts.length:=List.length_filter_le _ _
section
variable {w w':World} {F:Nat->Prop} {p s cR q l m t n:Nat} {S:DS} {G:SG} {T:TG}
def it.le (h:it w F p s cR q l m S G) (a:cR<=c'):it w F p s c' q l m S G:=
   ⟨h.d.le a,h.st,h.lp,h.ch,h.nq,h.nl,h.nm,h.ql,h.qm,h.lm,h.lk,h.bg,h.hs,h.kb⟩
def mH.re {H:Nat->Prop} {G':SG} (h:mH w F q l m t n G T) (a:aa H w w') (e:¬H t) (d:¬H n) (b:¬F2 t) (c:¬F2 n) (g:G'.y=G.y):mH w' F2 q l m t n G' T:=
   ⟨(a.block t (aq h.tx) e).trans h.tx,h.ch.aw a d,b,c,h.tq,h.tl,h.tm,h.tn,h.nq,h.nl,h.nm,λx f=>by rw [g];exact h.kb x f⟩
def Si (h:it w F p s cR q l m S G) (a:mH w F q l m t n G T):
  Calls prog 140 #[pQ t] w λe w'=>e= .returned (.tuple #[])/\it w' F p s cR q l m S {G with busy:=false}/\mH w' F q l m t n {G with busy:=false} T.close/\aa (λk=>k=t\/k=n\/k=q) w w':=by
 refine(MC h.st a).mono ?_;rintro e w1 ⟨rfl,f,g,i,b⟩;refine⟨rfl,⟨h.d.aw b (λk c e=>?_),i,h.lp.aw b (λe=>?_),h.ch.aw b (λe=>?_),h.nq,h.nl,h.nm,h.ql,h.qm,h.lm,h.lk,h.bg,h.hs,h.kb⟩,⟨f,g,a.nt,a.nn,a.tq,a.tl,a.tm,a.tn,a.nq,a.nl,a.nm,λx j=>by cases j⟩,b⟩
 .rcases e with e|e|e
  .exact a.nt (e▸c)
  .exact a.nn (e▸c)
  .exact h.nq (e▸c)
 .rcases e with e|e|e
  .exact a.tl e.symm
  .exact a.nl e.symm
  .exact h.ql e.symm
 .rcases e with e|e|e
  .exact a.tm e.symm
  .exact a.nm e.symm
  .exact h.qm e.symm
def Sj (w w':World) (F:Nat->Prop) (p s c q l m t n:Nat) (r:Int×DS×SG×TG) (e:Ending):Prop:=
 e= .returned (iV r.1)/\(it w' (more F w w') p s c q l m r.2.1 r.2.2.1/\mH w' (more F w w') q l m t n r.2.2.1 r.2.2.2)/\aa (λk=>F k\/k=l\/k=m\/k=t\/k=n\/k=q) w w'
def Fl {f:World} {i:Nat->Prop} {j:DS} {g:SG} {o:TG} (h0:it w F p s cR q l m S G) (b:mH w F q l m t n G T) (h:it f i p s c q l m j g) (a:mH f i q l m t n g o) (r:∀k,i k->F k\/(w.heap.size<=k/\k<f.heap.size)) (v:w.heap.size<=f.heap.size) (u:c<=c'):it f (more F w f) p s c' q l m j g/\mH f (more F w f) q l m t n g o:=by
 obtain⟨x,y,z,A,C⟩:=eK h0.st.lt h0.lp.lt h0.ch.lt (aq b.tx) b.ch.lt;exact⟨(h.reF r (cJ h0.d.lt v) (λe=>e.elim h0.nq (λe=>by omega)) (λe=>e.elim h0.nl (λe=>by omega)) (λe=>e.elim h0.nm (λe=>by omega))).le u,⟨a.tx,a.ch,λe=>e.elim b.nt (λe=>by omega),λe=>e.elim b.nn (λe=>by omega),a.tq,a.tl,a.tm,a.tn,a.nq,a.nl,a.nm,a.kb⟩⟩
def KK (h:it w F p s cR q l m S G) (z:mH w F q l m t n G T) (UI:T.puts.length<=16) (dC:S.fL) (aU:S.puts.length+5000<=4000000000000):
  Calls prog 88 #[pQ t] w λe w'=>Sj w w' F p s (cR+40) q l m t n (T.bI G S s) e:=by
 obtain⟨y,i,b,iK,hqw,hlw,Wk,Mx,hnw,mr,M⟩:=L3 (nS h z) (yh h) (yh z) (yh h.d.lt) h.st.lt h.lp.lt h.ch.lt (aq z.tx) z.ch.lt (Wp T G S) (yh (Ag G S s (T.news G S)));obtain⟨R,a⟩:=bQ (T.bI G S s);rw [<-a];unfold TG.bI at a;go_in;go_wp2_with fail;by_cases k:T.state G S=0
 .rw [aB (λh=>h k)] at a;have Fv:=vE (Ah k);rw [k] at y;clear k h z;refine bN y λw1 ar=>?_;have C:=GX (i.o.later ar) (b.o.later ar) Fv (by omega);by_cases J:T.news G S= []
  .rw [aG J] at a;have r:=yh a;clear a;have dE:=ar.size;have cQ:=yh ar;clear y ar;go_wp2_with fail;refine pr C λw2 sV cI aY=>?_;have ev:=aY.size;rw [J] at sV;have I:=λX=>sV.length X;have u:=Si ((i.o.later cQ.o).asked cI aY) ((b.o.later cQ.o).asked aY);have ig:=yh (((aa.ah F cQ.o).trans aY (λ_ h=> .inl h)).mono (λk c=> .inl c:∀k,F k->F k\/k=l\/k=m\/k=t\/k=n\/k=q));clear C sV cI aY;go_wp2_with fail;refine pr u λY f g aZ=>?_;have j:=yh (aH (Fl (c':=cR+40) i.o b.o f g (λk c=> .inl c) (by have:=aZ.size;omega) (by omega)) (ig.o.trans aZ (λk c=> .inl (.inr (.inr (.inr c))))));clear u f g aZ;go_wp2;go_ret;rw [r.o];exact⟨rfl,j.o⟩
  .rw [aB J] at a;have vq:=List.length_pos_iff.2 J;obtain⟨N,L⟩:=bQ (T.news G S);have P:=yh (λx (W:x∈N)=>(GY (T:=T) (G:=G) (S:=S) (L▸W)));rw [<-L] at a vq mr M;have O:=yh L;obtain⟨K,U⟩:=bQ (G.bI S s N);rw [<-U] at a M;have HK:=yh U;clear U L J;rw [<-O.o] at C;have dE:=ar.size;have cQ:=yh ar;clear y ar;go_wp2_with fail;refine pr C λw2 sV cI aY=>?_;have ev:=aY.size;have fZ:=sV.lt;have v:=(b.o.later cQ.o).asked aY;have I:=λX=>sV.length X;have u:=KJ ((i.o.later cQ.o).asked cI aY) sV (λhf=>by have:=iK.o _ hf;omega) (by omega) (by omega) (by omega) (λx W=>b.o.kb x (P.o x W)) (by omega) dC aU;rw [<-HK.o] at u;have c0:=v.c0;have Q:=yh v;have ig:=yh (((aa.ah F cQ.o).trans aY (λ_ h=> .inl h)).mono (λk c=> .inl c:∀k,F k->F k\/k=l\/k=m\/k=t\/k=n\/k=q));clear C sV cI aY v;go_wp2_with fail;refine pr u λY f _ aZ=>?_;have lB:=aZ.size;have g:mH Y (more F w2 Y) q l m t n K.2.2 T:=Q.o.re aZ (λe=>by
    rcases e with e|e|e
    .exact b.o.nt e
    .exact b.o.tl e
    .exact b.o.tm e) (λe=>by
    rcases e with e|e|e
    .exact b.o.nn e
    .exact b.o.nl e
    .exact b.o.nm e) (λe=>e.elim b.o.nt (λe=>by omega)) (λe=>e.elim b.o.nn (λe=>by omega)) M.o
   have lS:=yh (ig.o.trans aZ (λk c=> .inl (c.elim .inl (λh=> .inr (h.elim .inl (λh=> .inr (.inl h)))))));by_cases A:K.1=0
   .rw [aB (λh=>h A)] at a;have dK:(K.1 != 0)=false:=(by rw [A];rfl);have r:=yh a;clear a A;have Z:=Si f g;clear u f g aZ;go_wp2_with fail;refine pr Z λw4 D H dW=>?_;have ws:=dW.size;have j:=yh (aH (Fl (c':=cR+40) i.o b.o D H (λk c=>c.elim .inl (λh=> .inr ⟨by omega,by omega⟩)) (by omega) (by omega)) (lS.o.trans dW (λk c=> .inl (.inr (.inr (.inr c))))));clear Z D H dW;go_wp2;go_ret;rw [r.o];exact⟨rfl,j.o⟩
   .rw [aG A] at a;have dK:(K.1 != 0)=true:=(by rw [gB];exact A);have r:=yh a;clear a A;have j:=yh (aH (Fl (c':=cR+40) i.o b.o f g (λk c=>c.elim .inl (λh=> .inr ⟨by omega,h.2⟩)) (by omega) (by omega)) lS.o);clear u f g aZ;go_wp2;go_ret;rw [r.o];exact⟨rfl,j.o⟩
 .rw [aG k] at a;generalize T.state G S=E at*;have d:(E != 0)=true:=by rw [gB];exact k
  have r:=yh a;clear k a h z;refine bN y λw1 ar=>?_;have j:=yh (aH (Fl (c':=cR+40) i.o b.o (i.o.later ar) (b.o.later ar) (λk c=> .inl c) ar.size (by omega)) (aa.ah (λk=>F k\/k=l\/k=m\/k=t\/k=n\/k=q) ar));clear y ar;go_wp2;go_ret;rw [r.o];exact⟨rfl,j.o⟩
end
end
def fb (n:Nat):CM:=(List.range n).map λi=>(i,zs 512)
def Ai (n:Nat):(fb n).length=n:=by simp [fb]
def CY (n:Nat):fb (n+1)=fb n ++ [(n,zs 512)]:=by simp [fb,List.range_succ]
def CZ (h:j<=n):∃r,fb n=fb j ++ r:=by
 refine⟨(fb n).drop j,?_⟩;have:fb j=(fb n).take j:=by
  unfold fb;rw [<-List.map_take,List.take_range,Nat.min_eq_left h]
 rw [this,List.take_append_drop]
def eC (S:DS) (s a n:Nat):Int×DS:=if (aE S s a (fb n)).1≠0 then aE S s a (fb n) else (aE S s a (fb n)).2.fl s
def l9 (S:DS) (s a n:Nat):(eC S s a n).2.puts.length<=S.puts.length+n:=by
 have h:=eF S s a (fb n);rw [Ai] at h;unfold eC;split
 .exact h
 .exact j4 (me _ _) h
def C0 (hd:B.ax w F p s S c) (a b:Nat) (oJ:a<=b) (M:b<=4000000000) (aU:S.puts.length+(b-a)+1<=4000000000000):
  Calls prog 49 #[pQ p,iV (a:Int),iV (b:Int)] w λe w'=>e= .returned (iV (eC S s a (b-a)).1)/\B.ax w' (more F w w') p s (eC S s a (b-a)).2 c/\aa F w w':=by
 obtain⟨n,rfl⟩:∃n,b=a+n:=⟨b-a,by omega⟩;rw [Nat.add_sub_cancel_left] at aU⊢;clear oJ;obtain⟨R,t⟩:=bQ (eC S s a n);rw [<-t];unfold eC at t;obtain⟨iK,H,D⟩:=kI hd.lt hd t;clear hd t;go_in;go_wp2_with (at_make;refine iT _ rfl _ _ rfl _ 512 512 rfl rfl rfl (bS _) (by omega) ?_;intro w1 aV ar);have Bu:=aV.lt;have fS:Src w1 (some (aD w.heap.size 0)) 512 (zs 512):=by
  have:=aV.src (o:=0) (n:=512) (by rw [bH];omega);rwa [List.drop_zero,nz (by rw [bH];omega)] at this
 obtain⟨Ji,RV,cQ⟩:=kI fS (H.o.later ar) ar;clear aV ar fS;have K:((a+n:Nat):Int)<=4000000000:=by omega
 go_loopw [8] (λi wr=>∃j:Nat,j<=n/\i=iV ((a+j:Nat):Int)/\(aE S s a (fb j)).1=0/\B.ax wr (more F w1 wr) p s (aE S s a (fb j)).2 c/\aa F w1 wr) (λi _=>a+n-(intOf i).toNat);case atStart=>exact⟨0,dV _,rfl,rfl,RV.o.more,aa.refl _ _⟩
 case round=>
  clear RV;obtain⟨j,N,rfl,u,hd,eZ⟩:=hrel;have C:=eZ.size;have sO:=eF S s a (fb j);rw [Ai] at sO;have RY:Yh (∀k,F k->k<w1.heap.size):=λk z=>by have:=iK.o k z;omega
  have A:¬F w.heap.size:=λz=>by have:=iK.o _ z;omega
  by_cases bq:j<n
  .have cC:((a+j:Nat):Int)<((a+n:Nat):Int):=(by omega);have kZ:=Ji.o.o9 eZ (λy L _ e=>by
    cases L;exact A e)
   have gu:aE S s a (fb (j+1))=(aE S s a (fb j)).2.wr s ((a+j:Nat):Int) 512 (zs 512):=by
    rw [CY,fq,aB (λh=>h u)];simp only [aE];split
    .rfl
    .rename_i h;generalize DS.wr _ _ _ _ _=Z at*;rw [<-(Decidable.byContradiction h)]
   have f:=B.Eh hd ((a+j:Nat):Int) (some (aD w.heap.size 0)) 512 512 (zs 512) kZ (by omega);rw [<-gu] at f;obtain⟨r,G⟩:=CZ (Nat.succ_le_of_lt bq);have lJ:aE S s a (fb n)=if (aE S s a (fb (j+1))).1≠0 then aE S s a (fb (j+1)) else aE (aE S s a (fb (j+1))).2 s a r:=by
    rw [G];exact fq S s a _ _
   obtain⟨Y,x⟩:=bQ (aE S s a (fb (j+1)));rw [<-x] at f lJ;obtain⟨E,I,q⟩:=kI x lJ eZ;clear x lJ gu G hd eZ kZ u sO;by_cases l:Y.1=0
   .have J:(Y.1 != 0)=false:=(by rw [l];rfl);have UD:=yh l;clear l;go_wp2_with fail;refine fR f λw5 jH dX=>?_;have pR:=dX.size;have g:Yh (B.ax w5 (more F w1 w5) p s Y.2 c/\aa F w1 w5):=⟨jH.mono (vn C pR) (cJ (F:=F) (w:=w1) RY.o (by omega)),q.o.trans dX (λk d=>d.elim .inl (λh=> .inr h.1))⟩;clear f jH dX;go_wp2;go_roundw;case rel=>exact⟨j+1,by omega,by go_num,by rw [<-E.o];exact UD.o,by rw [<-E.o];exact g.o.1,g.o.2⟩
    case measure=>simp [intOf];omega
   .have J:(Y.1 != 0)=true:=(by rw [gB];exact l);have UD:=yh l;clear l;go_wp2_with fail;refine fR f λw5 jH dX=>?_;have pR:=dX.size;have g:Yh (B.ax w5 (more F w w5) p s Y.2 c/\aa F w w5):=⟨jH.mono (λk d=>by
     rcases d with (d|d)|d
     .exact .inl d
     .exact .inr ⟨by omega,by omega⟩
     .exact .inr ⟨by omega,d.2⟩) (cJ (F:=F) (w:=w) iK.o (by omega)),((aa.ah F cQ.o).trans q.o (λ_ h=> .inl h)).trans dX (λk d=>d.elim .inl (λh=> .inr (by omega)))⟩
    clear f jH dX;go_wp2;go_ret;have v:R=Y:=(by rw [D.o,I.o,aG UD.o,aG UD.o]);rw [v];exact⟨rfl,g.o⟩
  .obtain rfl:j=n:=(by omega);have f:=B.vz hd (by omega);have q:=yh eZ;have m:R=(aE S s a (fb j)).2.fl s:=(by rw [D.o,aB (λh=>h u)]);rw [<-m] at f;clear hd eZ m u sO bq;go_wp2_with fail;refine fR f λw5 jH dX=>?_;have pR:=dX.size;have g:Yh (B.ax w5 (more F w w5) p s R.2 c/\aa F w w5):=⟨jH.mono (λk d=>by
    rcases d with d|d
    .exact .inl d
    .exact .inr ⟨by omega,by omega⟩) (cJ (F:=F) (w:=w) iK.o (by omega)),((aa.ah F cQ.o).trans q.o (λ_ h=> .inl h)).trans dX (λk d=>d.elim .inl (λh=> .inr (by omega)))⟩
   clear f jH dX;go_wp2;go_ret;exact⟨rfl,g.o⟩
namespace B
def Sk (h:ax w F p s S cR) (f n:Nat) (L:f+2+n<=s) (N:n<=256) (aU:S.puts.length+400<=4000000000000):
  Calls prog 104 #[kJ p f n] w λe w'=>e= .returned (iV (cN S s f n).1)/\ax w' (more F w w') p s (cN S s f n).2 cR/\aa F w w':=by
 obtain⟨O,l,D,x⟩:=cO h.ok.hi h.lt ((bi w.heap.size w).alloc (bS _) (.cells #[.pointer (some ⟨p,0,none⟩), .int .i64 f, .int .i64 n] 144)) ((h.boxed (.cells #[.pointer (some ⟨p,0,none⟩), .int .i64 f, .int .i64 n] 144)));have H:=D;clear h D;go_in;go_wp2_with (at_make;refine iT _ rfl _ _ rfl _ 512 512 rfl rfl ?c1 ?c2 ?c3 ?_);case c1=>rfl
 case c2=>omega
 case c3=>omega
 intro w1 aV ar;have iN:=x.later ar;have dH:w1.heap[w.heap.size]? =some (.cells #[.pointer (some ⟨p,0,none⟩), .int .i64 f, .int .i64 n] 144 (0,0)):=(ar.block _ (by simp)).trans (heap_alloc_new _ _);obtain⟨ee,J,K,RV⟩:=cO aV.lt dH aV iN;have cQ:=(H.trans (ar.mono (by simp)));have z:(¬F w.heap.size/\¬F (w.heap.size+1)):=⟨λh=>by have:=l _ h;omega,λh=>by have:=l _ h;omega⟩;have c1:=bG dH;clear aV ar iN dH;go_wp2;clear c1;go_loopw [4] (λi wr=>∃k:Nat,k<=n+2/\i=iV ((f+k:Nat):Int)/\(bE S s f k).1=0/\ax wr (more F w1 wr) p s (bE S s f k).2 cR/\aa F w1 wr) (λi _=>f+n+2-(intOf i).toNat);case atStart=>exact⟨0,dV _,by simp,rfl,RV.more,aa.refl _ _⟩
 case round=>
  obtain⟨k,b,rfl,E,hd,eZ⟩:=hrel;have dH:=(eZ.block _ (by omega) z.1).trans J;have Aj:kf wr 5 (w.heap.size+1) (zs 512):=(eZ.block _ (by omega) z.2).trans K;have A:=aM dH;have c1:=bG dH;have c2:=bK dH;obtain⟨G,y,sW,C1,t,u⟩:=jF (F0 p f n wr (by omega) (by omega) (by omega) (by omega)) E hd eZ dH Aj;clear E hd eZ dH Aj;go_wp2_with fail;refine bN G λM bd=>?_;have dH:=(bd.block _ (aq t)).trans t;have Aj:kf M 5 (w.heap.size+1) (zs 512):=(bd.block _ (aq u)).trans u;obtain⟨cI,ig,ev,lB,u9⟩:=eK (sW.later bd) ((C1.trans (aa.ah (λ_=>False) bd) (λ_ h=>h.elim))) bd.size C1.size (pZ S s f k);clear G bd A c1 c2;have A:=aM dH;by_cases q:k<n+2
  .have bq:((f+k:Nat):Int)<(f:Int)+2+(n:Int):=(by omega);have fS:=Aj.src (o:=0) (n:=512) (by rw [bH];omega);rw [List.drop_zero,nz (by rw [bH];omega)] at fS;have m:=Eh cI ((f+k:Nat):Int) (some ⟨w.heap.size+1,0,none⟩) 512 512 (zs 512) fS (by omega);have C:bE S s f (k+1)=(bE S s f k).2.wr s ((f+k:Nat):Int) 512 (zs 512):=ju y;rw [<-C] at m;clear fS C dH Aj cI;go_wp2_with fail;refine fR m λr c aZ=>?_;have a:=(c.mono (λk b=>by rcases b with (b|b)|b;exact .inl b;exact .inr ⟨b.1,by have:=aZ.size;omega⟩;exact .inr ⟨by omega,b.2⟩) (cJ (F:=F) (w:=w1) (λk b=>by have:=l k b;omega) (by have:=aZ.size;omega)):ax r (more F w1 r) p s (bE S s f (k+1)).2 cR);have Ks:=ig.trans aZ (λj a=>by rcases a with a|a;exact .inl a;exact .inr a.1);have PM:=a;have Jk:=Ks;clear c aZ m a Ks;by_cases g:(bE S s f (k+1)).1=0
   .have d:((bE S s f (k+1)).1 == 0)=true:=(by rw [beq_iff_eq];exact g);have I:=g;clear g;go_wp2;go_roundw;case rel=>exact⟨k+1,by omega,by go_num,I,PM,Jk⟩
    case measure=>simp [intOf];omega
   .have d:((bE S s f (k+1)).1 == 0)=false:=(by rw [fJ];exact g);have v:cN S s f n=bE S s f (k+1):=by
     have:bE S s f (n+2)=bE S s f (k+1):=gD g (n+2) (by omega);unfold cN;rw [this,aG g]
    clear g;go_wp2;go_ret;rw [v];exact⟨rfl,PM.from (w:=w) l (by omega) Jk.size,(aa.ah F cQ).trans Jk (λ_ h=> .inl h)⟩
  .have bq:¬((f+k:Nat):Int)<(f:Int)+2+(n:Int):=(by omega);obtain rfl:k=n+2:=(by omega);have m:=vz cI (by omega);have v:cN S s f n=(bE S s f (n+2)).2.fl s:=by
    unfold cN;rw [aB (by have:=y;omega)]
   have PN:=v;clear v dH Aj cI;go_wp2_with fail;refine fR m λr c aZ=>?_;have PM:=((c.wide (λk b=>by have:=l k b;omega) lB (by have:=aZ.size;omega):ax r (more F w1 r) p s ((bE S s f (n+2)).2.fl s).2 cR));have Jk:=(ig.trans aZ (λj a=>by rcases a with a|a;exact .inl a;exact .inr a.1):aa F w1 r);clear c aZ m;go_wp2;go_ret;rw [PN];exact⟨rfl,PM.from (w:=w) l (by omega) Jk.size,(aa.ah F cQ).trans Jk (λ_ h=> .inl h)⟩
def KL (h:ax w F p s S cR) (dC:S.fL) (f n:Int) (aU:S.puts.length+500<=4000000000000):
  Calls prog 50 #[pQ p,iV f,iV n] w λe w'=>e= .returned (iV (cD S s f n).1)/\ax w' (more F w w') p s (cD S s f n).2 (cR+2)/\aa F w w':=by
 have C:=h.lt;have DC:¬F w.heap.size:=λi=>by have:=h.lt _ i;omega
 have r:=(aJ w (.cells #[.pointer (some ⟨p,0,none⟩), .int .i64 f, .int .i64 n] 144));have rG:(w.alloc (.cells #[.pointer (some ⟨p,0,none⟩), .int .i64 f, .int .i64 n] 144)).heap[w.heap.size]? =some (.cells #[.pointer (some ⟨p,0,none⟩), .int .i64 f, .int .i64 n] 144 (0,0)):=heap_alloc_new _ _;have xr:=h.boxed (.cells #[.pointer (some ⟨p,0,none⟩), .int .i64 f, .int .i64 n] 144);have i:=tV xr f n;have t:=xr;unfold cD;by_cases q:cy S s f n=0
 .rw [aB (by omega)];obtain⟨ZD,a,b,rfl,rfl,oJ,ar,bd⟩:=fV q;rw [q] at i;simp only [Int.toNat_natCast];have H:=sD S.take s a b;have aps:S.take.puts.length=S.puts.length:=rfl;have C3:=((dC.take).Q7 s a b);have A:=(λm (cI:ax m F p s S.take cR)=>Sk cI a b oJ bd (by simpa [DS.take] using (show S.puts.length+400<=4000000000000 by omega)));generalize cN S.take s a b=Y at*;by_cases k:Y.1=0
  .rw [aB (λh=>h k)];have d:(Y.1 == 0)=true:=(by rw [beq_iff_eq];exact k);go_in;go_wp2_with fail;refine bN i λw1 c=>?_;have jJ:w1.heap[w.heap.size]? =_:=(c.block _ (by simp)).trans rG;go_wp2_with fail;refine(zN (t.later c)).mono ?_;rintro e m ⟨rfl,cI,aY⟩;have ml:=eE jJ aY DC;have u:=aM ml;have v:=bG ml;have x:=bK ml;have ig:=((aa.ah F (r.trans (c.mono (by simp)))).trans aY (λ_ h=> .inl h));go_wp2_with fail;refine(A m cI).mono ?_;rintro e z ⟨rfl,g,aZ⟩;have tP:=eE ml aZ DC;obtain⟨u,v,x,lS,ev,lB⟩:=jF (aM tP) (bG tP) (bK tP) ((ig.trans aZ (λ_ h=> .inl h))) ig.size aZ.size;have D:=Kz g a b 1 0 (by omega) (by omega) (by omega) (by omega) (C3.now a) (C3.now (a+1));rw [show ((1:Nat):Int)*4294967296+((0:Nat):Int)=4294967296 by decide] at D;go_wp2_with fail;refine fR D λE y dW=>?_;have ws:=dW.size;have G:=(aH ((y.mono (λk l=>by
    rcases l with (l|l)|l
    .exact .inl l
    .exact .inr ⟨by omega,by omega⟩
    .exact .inr ⟨by omega,l.2⟩) (cJ (F:=F) (w:=w) C (by omega)):ax E (more F w E) p s _ (cR+2))) (lS.trans dW (λj o=>by
    rcases o with o|o
    .exact .inl o
    .exact .inr (by omega))))
   go_wp2;go_ret;exact⟨rfl,G⟩
  .rw [aG k];have d:(Y.1 == 0)=false:=(by rw [fJ];exact k);go_in;go_wp2_with fail;refine bN i λw1 c=>?_;have jJ:w1.heap[w.heap.size]? =_:=(c.block _ (by simp)).trans rG;go_wp2_with fail;refine(zN (t.later c)).mono ?_;rintro e m ⟨rfl,cI,aY⟩;have ml:=eE jJ aY DC;have u:=aM ml;have v:=bG ml;have x:=bK ml;have ig:=((aa.ah F (r.trans (c.mono (by simp)))).trans aY (λ_ h=> .inl h));go_wp2_with fail;refine(A m cI).mono ?_;rintro e z ⟨rfl,g,aZ⟩;have tP:=eE ml aZ DC;have u:=aM tP;have v:=bG tP;have x:=bK tP;go_wp2;go_ret;exact⟨rfl,aH (((g.from C ig.size aZ.size).le (by omega):ax z (more F w z) p s Y.2 (cR+2))) (ig.trans aZ (λ_ h=> .inl h))⟩
 .rw [aG q];have d:(cy S s f n == 0)=false:=by rw [fJ];exact q
  generalize cy S s f n=U at*;go_in;go_wp2_with fail;refine bN i λw1 c=>?_;go_wp2;go_ret;exact⟨rfl,(aH (((t.later c).more (w:=w)).le (by omega:cR<=cR+2)) (aa.ah F (r.trans (c.mono (by simp)))))⟩
end B
def oL (m:Nat):Builtin.zeroCells (Value.int .u8 0).cells m=(bs (List.replicate m 0)).toArray:=by
 apply Array.ext';apply List.ext_getElem
 .simp [Builtin.zeroCells,bs,Value.cells]
 .intro i a b;simp [Builtin.zeroCells,bs,Nat.mod_one,Value.cells]
def Es (w:World) (base:Nat) (D:TypeId) (v:Value) (n:Nat) (l:List Int) (m:Nat) (aA:w.ownsRow base 5 1 v n (bs l)) (E:n+m<=1000000) (C4:base<=w.heap.size) (vq:0<n+m):
  ∃g c w',(Builtin.append_ #[36,3] D #[v,iV (m:Int)]).run prog w= .ok (.slice (some (aD g 0)) (n+m) c) w'/\
   w'.ownsRow base 5 1 (.slice (some (aD g 0)) (n+m) c) (n+m) (bs (l ++ List.replicate m 0))/\w.grownBy w' v.ownBlock:=by
 obtain⟨i,r,gC,dE,ev⟩:=info_parts gh;have j6:(bs l).length=n:=by simpa using aA.1
 have Om:l.length=n:=by simpa [bs] using j6
 have yn:IntKind.i64.wrap (m:Int)=(m:Int):=by rw [IntKind.wrap_i64];omega
 have h0:¬(m:Int)<0:=by omega
 have f:¬(281474976710656<(m:Int)):=by omega
 have o:∀w,(asInt (iV (m:Int))).run prog w= .ok (m:Int) w:=λ_=>rfl;have lA:(bs (l ++ List.replicate m 0))=bs l ++ bs (List.replicate m 0):=by simp [bs]
 have b:∀(old:Nat) (row:Option Nat),
     (w.drew.alloc (.cells ((bs l).toArray ++ (bs (List.replicate m 0)).toArray ++ Builtin.zeroCells (Value.int .u8 0).cells (grownCap w (n+m) old 5-(n+m))) 5)).ownsRow base 5 1
      (.slice (some (aD w.heap.size 0)) (n+m) (grownCap w (n+m) old 5)) (n+m) (bs (l ++ List.replicate m 0))/\
   w.grownBy (w.drew.alloc (.cells ((bs l).toArray ++ (bs (List.replicate m 0)).toArray ++ Builtin.zeroCells (Value.int .u8 0).cells (grownCap w (n+m) old 5-(n+m))) 5)) row:=by
  intro old row;have wq:=grownCap_ge w (n+m) old 5;have Ek:=grownCap_le_maxLen w (n+m) old 5 (by unfold maxLen;omega);refine⟨⟨by simp [bs,Om], .inr ⟨w.heap.size,_,_,rfl,C4,heap_alloc_new w.drew _,wq,Ek,?_,?_⟩⟩,⟨rfl,rfl,rfl,by simp,λk t _=>heap_alloc_old w.drew _ t⟩⟩
  .rw [oL];simp [bs,Om];omega
  .rw [lA];simp only [Array.toList_append,Nat.mul_one];exact List.take_left' (by simp [bs,Om])
 rcases aA.2 with ⟨rfl,rfl⟩|⟨g,a,cur,rfl,vF,A,PO,Ek,ou,ad0⟩
 .have we:=List.eq_nil_of_length_eq_zero Om;subst we;have d:m≠0:=by omega
  have s:¬(281474976710656<Builtin.nextslicecap m 0):=by rw [nextslicecap_zero (by omega)];omega
  obtain⟨p,q⟩:=b 0 (Value.ownBlock (.slice none 0 0));simp only [Nat.zero_add] at p q⊢;refine⟨w.heap.size,_,_,?_,p,q⟩;have j:¬9223372036854775807<(m:Int):=by omega
  simp [Builtin.append_,o,sizeOf,typeInfo,zeroValue,r,gC,dE,ev,yn,h0,f,d,s,j,Question.forced,run_firstCells_none,newRow,grownCap,oL]
 .have apt:cur.size=a:=by simpa using ou
  have y:cur.toList.take n=bs l:=by simpa using ad0
  by_cases d:m=0
  .subst d;have aja:∀w,(asInt (iV 0)).run prog w= .ok 0 w:=λ_=>rfl;have ajb:IntKind.i64.wrap 0=0:=(by decide);have bw:(storeCells (aD g n) []).run prog w= .ok () w:=rfl;refine⟨g,a,w,?_,by simpa using aA,⟨rfl,rfl,rfl,bS _,λ_ _ _=>rfl⟩⟩;simp [Builtin.append_,aja,sizeOf,typeInfo,r,dE,ev,ajb,PO,Addr.add_lit,bw]
  by_cases rY:n+m<=a
  .refine⟨g,a,w.setRow g (cur.toList.take n ++ bs (List.replicate m 0) ++ cur.toList.drop (n+m)).toArray,?_,⟨by simp [bs,Om], .inr ⟨g,a,_,rfl,vF,setRow_heap w g cur _ 5 _ A,rY,Ek,?_,?_⟩⟩,⟨rfl,rfl,rfl,by simp,λk _ t=>setRow_other w g k _ (λe=>t (by simp [Value.ownBlock,e]))⟩⟩
   .have bw:=run_storeCells_at prog g n 5 (bs (List.replicate m 0)) 0 cur w A (by simp [bs];omega) (by intro u C;obtain⟨x,_,rfl⟩:=List.mem_map.1 C;rfl);simp only [Nat.add_zero] at bw;have BQ:(bs (List.replicate m 0)).length=m:=(by simp [bs]);rw [BQ] at bw;have z:(Builtin.zeroCells (Value.int .u8 0).cells m).toList=bs (List.replicate m 0):=(by rw [oL]);simp [Builtin.append_,o,sizeOf,typeInfo,zeroValue,r,gC,dE,ev,yn,h0,f,d,rY,Addr.add_lit];rw [z,bw];simp [bs]
   .simp [bs];omega
   .rw [y,lA];exact List.take_left' (by simp [bs,Om])
  .have I8:a<n+m:=(by omega);have s:¬(281474976710656<Builtin.nextslicecap (n+m) a):=(by have:=growslice_fits (need:=n+m) (old:=a) (bytes:=1) (by omega) (by omega);omega);obtain⟨p,q⟩:=b a (Value.ownBlock (.slice (some (aD g 0)) n a));refine⟨w.heap.size,_,_,?_,p,q⟩;have j:¬9223372036854775807<(n:Int)+(m:Int):=(by omega);simp [Builtin.append_,o,sizeOf,typeInfo,zeroValue,r,gC,dE,ev,yn,h0,f,d,rY,s,j,Question.forced,(run_firstCells_some (P:=prog) w.drew 1 n (aD g 0) n a (bs l) (by omega) (by simpa using (aA.cells (g:=g) rfl))),newRow,grownCap,oL]
def vH:∀k m,bB (k+1) m=bB k m ++ [((m / 256 ^ k%256:Nat):Int)]
 |0,m=>by simp [bB]
 |k+1,m=>by
  rw [bB,vH k (m / 256),bB];simp [Nat.div_div_eq_div_mul,Nat.pow_succ,Nat.mul_comm]
def oM:∀k m,Bytes (bB k m)
 |0,_=>by intro x a;cases a
 |k+1,m=>by
  intro x a;rcases List.mem_cons.1 a with rfl|a
  .omega
  .exact oM k _ x a
def vI (w:World) (B p:Nat) (l:List Int):Prop:=
 B<=p/\B<=w.heap.size/\∃v,w.heap[p]? =some (.cells #[v] 140 (0,0))/\w.ownsRow B 5 1 v l.length (bs l)/\v.ownBlock≠some p
def vI.put {w1:World} {B:Nat} {a:List Int} {g:Nat} (i:B<=p) (b:B<=w.heap.size) (f:w.heap[p]? =some (.cells #[v] 140 (0,0))) (l:v.ownBlock≠some p) (bq:∀k,v.ownBlock=some k->B<=k)
    (aR:w.grownBy w1 v.ownBlock) (aA:w1.ownsRow B 5 1 (.slice (some (aD g 0)) a.length c) a.length (bs a)):
  w1.cell? (aD p 0)=some v/\w1.frozen? (aD p 0)=false/\vI (w1.setCell ⟨p,0,none⟩ (.slice (some ⟨g,0,none⟩) a.length c)) B p a/\Below B w (w1.setCell ⟨p,0,none⟩ (.slice (some ⟨g,0,none⟩) a.length c)):=by
 have pg:=(aR.block p ((lV.1 f).1) (λe=>l e.symm)).trans f;have d:g≠p:=by
  obtain⟨o,c',n,_,m,_⟩:=ay.fe aA (by simp);cases n;exact m.ne pg (by decide)
 refine⟨aj pg rfl,ae pg 0,⟨i,?_,_,heap_setCell_same _ _ _ _ _ _ pg,?_,?_⟩,?_⟩
 .simp [World.setCell];exact j4 b aR.size
 .exact aA.kept (mQ w1 ⟨p,0,none⟩ _) (.inr (by simpa [Value.ownBlock] using d))
 .simpa [Value.ownBlock] using d
 .exact((bi _ w).grown aR b (λk e=>bq k e)).trans ((aa.setCell (F:=λj=>j=p) (p:=⟨p,0,none⟩) w1 rfl _).below (λj q=>by omega) (j4 b aR.size))
def mK (p B:Nat) (l:List Int) (m a:Nat) (w:World) (h:vI w B p l) (P:l.length+a<=100000) (F:m<=9223372036854775807):
  Calls prog 100 #[pQ p,iV (m:Int),iV (a:Int)] w λe w'=>e= .returned (.tuple #[])/\vI w' B p (l ++ bB a m)/\Below B w w':=by
 obtain⟨N,K,gC,dE,ev⟩:=info_parts gh;have H:=h;clear h;go_in;go_wp2;go_loopw [1,7] (λr i wr=>∃k:Nat,k<=a/\i=iV k/\r=iV ((m / 256 ^ k:Nat):Int)/\vI wr B p (l ++ bB k m)/\Below B w wr) (λ_ i _=>a-(intOf i).toNat);case atStart=>exact⟨0,dV _,rfl,by simp,by simpa [bB] using H,bi _ _⟩
 case round=>
  obtain⟨k,O,rfl,rfl,is,ew⟩:=hrel;by_cases bq:k<a
  .have cC:(k:Int)<(a:Int):=(by omega);obtain⟨G,M,v,j,aA,A⟩:=is;have db:=aM j;have b:(l ++ bB k m).length=l.length+k:=(by simp [aK]);rw [b] at aA;have x:m / 256 ^ (k+1)=m / 256 ^ k / 256:=(by rw [Nat.div_div_eq_div_mul,Nat.pow_succ]);have y:=vH k m;generalize I:m / 256 ^ k=Q at*;obtain⟨bt,d,s,t,Pz,Md⟩:=jF aA j ew A x y;clear aA j ew A I x y;go_wp2_with (at_builtin;refine wpList_append_own _ rfl _ _ 36 rfl B 5 N (.int .u8 0) 1 1 underlying36 K gC dE ev rfl (by decide) _ _ _ rfl (bt.alloc _) (aD wr.heap.size 0) 1 1 [.int .u8 ((Q:Int)%256)] rfl rfl ?n1 ?n2 ?n3 ?n4 ?n5 ?_);case n1=>exact cell_one_new _ _ _
   case n2=>intro u C;simp at C;subst C;rfl
   case n3=>unfold maxLen;omega
   case n4=>omega
   case n5=>simp;omega
   intro T w1 cM lj jG;obtain⟨g,c,rfl,J,L,BQ⟩:=ay.fe cM jG;have z:List.map (Value.int .u8) l ++ (List.map (Value.int .u8) (bB k m) ++ [.int .u8 ((Q:Int)%256)])=bs (l ++ bB (k+1) m):=by
    rw [Md];simp [bs]
   have f:l.length+k+1=(l ++ bB (k+1) m).length:=(by simp [aK];omega);rw [z,f] at cM;have n:B<=(wr.alloc (.cells #[.int .u8 ((Q:Int)%256)] 5)).heap.size:=(by simp;omega);have pC:=(lV.1 d).1;obtain⟨R,S,o,q⟩:=vI.put G n ((Below.heap_alloc _ _ _ pC).trans d) t (λk e=>(bt.lt k e).1) lj cM;rw [<-f] at o q;have E:=(aH o (((s.alloc M _).trans q)));clear cM lj jG L J z f o q bt d s t Md;go_wp2;go_roundw;case rel=>exact⟨k+1,by omega,by go_num,by rw [Pz];simp,E⟩
   case measure=>simp [intOf];omega
  .have cC:¬(k:Int)<(a:Int):=(by omega);have pk:k=a:=(by omega);subst pk;have D:=(aH is ew);clear is ew;go_wp2
   go_end0
   exact⟨rfl,D⟩
def PP (s:ByteArray):List Int:=s.data.toList.map (λb=>(b.toNat:Int))
def Wq (s:ByteArray):(PP s).length=s.size:=by simp [PP]
def On (s:ByteArray):Lib.strCells s=bs (PP s):=by simp [Lib.strCells,bs,PP]
def Oo (p B:Nat) (l:List Int) (s:ByteArray) (w:World) (h:vI w B p l) (D:0<s.size) (C:l.length+s.size<=100000):
  Calls prog 99 #[pQ p, .string s] w λe w'=>e= .returned (.tuple #[])/\vI w' B p (l ++ PP s)/\Below B w w':=by
 obtain⟨z,x,gC,dE,ev⟩:=info_parts gh;obtain⟨t,q,v,b,aA,n⟩:=h;obtain⟨db,bt,j,i⟩:=cO (aM b) aA b n;clear aA b n;go_in;go_wp2_with (at_builtin;refine Lib.wpList_append_own_string _ rfl _ _ 36 9 rfl B 5 z underlying36 underlying9 x gC dE ev _ _ _ rfl bt s rfl ?n3 ?n4 ?n5 ?_);case n3=>unfold maxLen;omega
 case n4=>omega
 case n5=>exact q
 intro A w1 cM lj jG;have o:A≠ .slice none 0 0:=by rintro rfl;rcases cM.2 with ⟨_,h⟩|⟨_,_,_,h,_⟩;omega;cases h
 obtain⟨g,c,rfl,u,y,BQ⟩:=ay.fe cM o;rw [On] at cM;have m:bs l ++ bs (PP s)=bs (l ++ PP s):=by simp [bs]
 have a:l.length+s.size=(l ++ PP s).length:=by simp [Wq]
 rw [m,a] at cM;obtain⟨E,F,d,f⟩:=vI.put t q j i (λk e=>(bt.lt k e).1) lj cM;rw [<-a] at d f;have r:=(aH d f);clear cM lj jG y u m a d f bt j i o BQ;go_wp2
 go_end0
 exact⟨rfl,r⟩
def KM {b:Array Oper} {o:Oper} {a:Act} {K:Act->World->Prop} {Q:Exit->Act->World->Prop} {E:Prop}
    (e:o.guard=none) (s x:Operand) (mj:o.op=Op.call {callee:=Callee.builtin Builtin.append,args:= #[s,x],argTypes:= #[36,3]})
    (base:Nat) (v:Value) (n:Nat) (l:List Int) (m:Nat) (i:a.eval s=v) (k:a.eval x=iV (m:Int)) (aA:w.ownsRow base 5 1 v n (bs l)) (f:n+m<=1000000) (C4:base<=w.heap.size) (vq:0<n+m)
    (d:∀g c w',w'.ownsRow base 5 1 (.slice (some (aD g 0)) (n+m) c) (n+m) (bs (l ++ List.replicate m 0))->w.grownBy w' v.ownBlock->K (a.put o.dst (.slice (some (aD g 0)) (n+m) c)) w'):
  if Region.wanted o (yielded b a.tmps)=true then Oper.wp prog o a w K Q else E:=by
 have j:Region.wanted o (yielded b a.tmps)=true:=by simp [Region.wanted,e]
 rw [aG j];obtain⟨g,c,w',bD,p,q⟩:=Es w base o.type v n l m aA f C4 vq;unfold Oper.wp;simp [execOp,mj,resolve,invoke,builtin,i,k,bD,Result.andThen];exact d g c w' p q
def KN (p B:Nat) (l:List Int) (m:Nat) (w:World) (h:vI w B p l) (we:0<l.length) (A:l.length+m<=100000):
  Calls prog 101 #[pQ p,iV ((l.length+m:Nat):Int)] w λe w'=>e= .returned (.tuple #[])/\vI w' B p (l ++ List.replicate m 0)/\Below B w w':=by
 obtain⟨s,o,v,n,aA,x⟩:=h;obtain⟨g,c,y,u,C,_⟩:=ay.fe aA (by rintro rfl;rcases aA.2 with ⟨_,h⟩|⟨_,_,_,h,_⟩;omega;cases h);subst y;have db:=aM n;have kv:w.drew.ownsRow B 5 1 (.slice (some (aD g 0)) l.length c) l.length (bs l):=aA;have ad1:((l.length+m:Nat):Int)-(l.length:Int)=(m:Int):=by omega
 have ajc:∀{f d:Nat} {a:World},a.ownsRow B 5 1 (.slice (some (aD f 0)) (l.length+m) d) (l.length+m) (bs (l ++ List.replicate m 0))->w.drew.grownBy a (Value.ownBlock (.slice (some (aD g 0)) l.length c))->
   a.cell? (aD p 0)=some (.slice (some (aD g 0)) l.length c)/\a.frozen? (aD p 0)=false/\Yh (vI (a.setCell ⟨p,0,none⟩ (.slice (some ⟨f,0,none⟩) (l.length+m) d)) B p (l ++ List.replicate m 0)/\Below B w (a.setCell ⟨p,0,none⟩ (.slice (some ⟨f,0,none⟩) (l.length+m) d))):=by
  intro f d a fN j7;have j:l.length+m=(l ++ List.replicate m (0:Int)).length:=by simp
  rw [j] at fN;obtain⟨q,r,i,b⟩:=vI.put (w:=w.drew) s o n x (λk e=>(aA.lt k e).1) j7 fN;rw [<-j] at i b;exact⟨q,r,i,⟨b.os,b.tape,b.output,b.size,b.block⟩⟩
 have z:IntKind.i64.wrap (m:Int)=(m:Int):=by rw [IntKind.wrap_i64];omega
 generalize t:l.length+m=N at*;go_in;go_wp2
 go_region_law
  (first
   |(refine KM (by rfl) _ _ (by rfl) B (.slice (some (aD g 0)) l.length c) l.length l m (by rfl) (by rfl) (yh kv).out (by omega) o (by omega) ?_;intro f d a fN j7;obtain⟨q,r,i⟩:=ajc (t▸fN) j7))
 all_goals
  go_end0
  exact⟨rfl,i.out⟩
def vJ (s l n:Int):Prop:=(18<=l/\l<=256)/\(4<=n/\n<=1024)/\n%4=0/\(l+n / 4+6<=s/\s<=2048)
def yo (s l n:Int) (v:Value) (x:Int):Prop:=
   (vJ s l n/\v= .agg #[iV l,iV (3+l),iV (s-(3+l)),iV n,iV (2+n / 4)]/\x=0)\/(¬vJ s l n/\v= .agg #[iV 0,iV 0,iV 0,iV 0,iV 0]/\x=22)
def cm (w:World) (a b:Obj):bW w ((w.alloc a).alloc b):=Below.alloc (Below.alloc (bi _ _) (bS _) _) (by simp) _
def rj (s l n:Int) (w:World) (c:18<=l) (d:l<=256) (f:4<=n) (g:n<=1024) (a:n%4=0) (s1:l+n / 4+6<=s) (s2:s<=2048):
  Calls prog 98 #[.agg #[iV s,iV l,iV n]] w λe w'=>e= .returned (.tuple #[.agg #[iV l,iV (3+l),iV (s-(3+l)),iV n,iV (2+n / 4)],iV 0])/\bW w w':=by
 have b:n.tmod 4=n%4:=Int.tmod_eq_emod_of_nonneg (by omega);have hd:n.tdiv 4=n / 4:=Int.tdiv_eq_ediv_of_nonneg (by omega);have s3:3+l+(2+n / 4)+1<=s:=by omega
 go_in;go_wp2;refine bodyPost_ret (v:= .tuple #[.agg #[iV l,iV (3+l),iV (s-(3+l)),iV n,iV (2+n / 4)],iV 0]) (by simp [results,results98,go_sem]) rfl ⟨rfl,cm w _ _⟩
def Oq (s l n:Int) (w:World) (h:¬(18<=l/\l<=256)):
  Calls prog 98 #[.agg #[iV s,iV l,iV n]] w λe w'=>e= .returned (.tuple #[.agg #[iV 0,iV 0,iV 0,iV 0,iV 0],iV 22])/\bW w w':=by
 by_cases a:18<=l
 .have b:¬l<=256:=by omega
  go_in;go_wp2;exact bodyPost_ret (v:= .tuple #[.agg #[iV 0,iV 0,iV 0,iV 0,iV 0],iV 22]) (by simp [results,results98,go_sem]) rfl ⟨rfl,cm w _ _⟩
 .have c:l<18:=by omega
  go_in;go_wp2;exact bodyPost_ret (v:= .tuple #[.agg #[iV 0,iV 0,iV 0,iV 0,iV 0],iV 22]) (by simp [results,results98,go_sem]) rfl ⟨rfl,cm w _ _⟩
def Ot (s l n:Int) (w:World) (d:18<=l) (f:l<=256) (h:¬(4<=n/\n<=1024)):
  Calls prog 98 #[.agg #[iV s,iV l,iV n]] w λe w'=>e= .returned (.tuple #[.agg #[iV 0,iV 0,iV 0,iV 0,iV 0],iV 22])/\bW w w':=by
 by_cases a:4<=n
 .have b:¬n<=1024:=by omega
  go_in;go_wp2;exact bodyPost_ret (v:= .tuple #[.agg #[iV 0,iV 0,iV 0,iV 0,iV 0],iV 22]) (by simp [results,results98,go_sem]) rfl ⟨rfl,cm w _ _⟩
 .have c:n<4:=by omega
  go_in;go_wp2;exact bodyPost_ret (v:= .tuple #[.agg #[iV 0,iV 0,iV 0,iV 0,iV 0],iV 22]) (by simp [results,results98,go_sem]) rfl ⟨rfl,cm w _ _⟩
def Ou (s l n:Int) (w:World) (c:18<=l) (d:l<=256) (f:4<=n) (g:n<=1024) (h:¬n%4=0):
  Calls prog 98 #[.agg #[iV s,iV l,iV n]] w λe w'=>e= .returned (.tuple #[.agg #[iV 0,iV 0,iV 0,iV 0,iV 0],iV 22])/\bW w w':=by
 have b:n.tmod 4=n%4:=Int.tmod_eq_emod_of_nonneg (by omega);have a:(n%4 != 0)=true:=by rw [gB];exact h
 go_in;go_wp2;exact bodyPost_ret (v:= .tuple #[.agg #[iV 0,iV 0,iV 0,iV 0,iV 0],iV 22]) (by simp [results,results98,go_sem]) rfl ⟨rfl,cm w _ _⟩
def Ov (s l n:Int) (w:World) (g:18<=l) (i:l<=256) (j:4<=n) (k:n<=1024) (c:n%4=0) (h:¬(l+n / 4+6<=s/\s<=2048)):
  Calls prog 98 #[.agg #[iV s,iV l,iV n]] w λe w'=>e= .returned (.tuple #[.agg #[iV 0,iV 0,iV 0,iV 0,iV 0],iV 22])/\bW w w':=by
 have f:n.tmod 4=n%4:=Int.tmod_eq_emod_of_nonneg (by omega);have hd:n.tdiv 4=n / 4:=Int.tdiv_eq_ediv_of_nonneg (by omega);by_cases b:3+l+(2+n / 4)+1<=s
 .have a:¬s<=2048:=by omega
  go_in;go_wp2;exact bodyPost_ret (v:= .tuple #[.agg #[iV 0,iV 0,iV 0,iV 0,iV 0],iV 22]) (by simp [results,results98,go_sem]) rfl ⟨rfl,cm w _ _⟩
 .have d:s<3+l+(2+n / 4)+1:=by omega
  by_cases a:2048<s
  .omega
  .clear h;go_in;go_wp2;exact bodyPost_ret (v:= .tuple #[.agg #[iV 0,iV 0,iV 0,iV 0,iV 0],iV 22]) (by simp [results,results98,go_sem]) rfl ⟨rfl,cm w _ _⟩
def GZ (s l n:Int) (w:World):
  Calls prog 98 #[.agg #[iV s,iV l,iV n]] w λe w'=>∃v x,e= .returned (.tuple #[v,iV x])/\yo s l n v x/\bW w w':=by
 have b:¬vJ s l n->∀(e:Ending) (w':World),(e= .returned (.tuple #[.agg #[iV 0,iV 0,iV 0,iV 0,iV 0],iV 22])/\bW w w')->∃v x,e= .returned (.tuple #[v,iV x])/\yo s l n v x/\bW w w':=
  λi e w' h=>⟨_,_,h.1, .inr ⟨i,rfl,rfl⟩,h.2⟩
 by_cases a:18<=l/\l<=256
 .by_cases c:4<=n/\n<=1024
  .by_cases d:n%4=0
   .by_cases f:l+n / 4+6<=s/\s<=2048
    .exact(rj s l n w a.1 a.2 c.1 c.2 d f.1 f.2).mono (λe w' h=>⟨_,_,h.1, .inl ⟨⟨a,c,d,f⟩,rfl,rfl⟩,h.2⟩)
    .exact(Ov s l n w a.1 a.2 c.1 c.2 d f).mono (b (λg=>f g.2.2.2))
   .exact(Ou s l n w a.1 a.2 c.1 c.2 d).mono (b (λg=>d g.2.2.1))
  .exact(Ot s l n w a.1 a.2 c).mono (b (λg=>c g.2.1))
 .exact(Oq s l n w a).mono (b (λg=>a g.1))
end Go.Proofs.YtcpdggdfihjhoaaGreat
