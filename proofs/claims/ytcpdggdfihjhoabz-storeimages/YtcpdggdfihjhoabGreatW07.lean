import Derived.Test.YtcpdggdfihjhoabGreatW01
import Derived.Test.YtcpdggdfihjhoabGreatW03
import Derived.Test.YtcpdggdfihjhoabGreatW04
import Derived.Test.YtcpdggdfihjhoabGreatW05
import Derived.Test.YtcpdggdfihjhoabGreatW06
import Derived.Scope
import Derived.WalkMore
import Derived.Laws.AppendOwn
import Derived.Lib.AppendStr
import Derived.OwnWalk
import Derived.Deep.RegionLaw
set_option maxRecDepth 20000
set_option maxHeartbeats 8000000
set_option linter.all false
namespace Go.Proofs.YtcpdggdfihjhoabGreat
open Go.Proofs.Tryz
open Go.RowKit Go.Maps
variable {X ms ns:CM} {S:DS} {L:LG} {c c' cR j k n p s:Nat} {UG:Nat->List Int} {F F2 Z:Nat->Prop} {v:Value} {w:World}
section
abbrev rsC (r kl:Nat) (y:LY) (pv:Value) (hm:Nat) (nv:Value):Array Value:= #[pQ r,pQ kl,iV (y.log:Int),iV (y.home:Int),iV (y.blocks:Int),iV (y.nodes:Int),iV (y.data:Int),pv,iV (hm:Int),nv]
def lj (w:World) (k r kl:Nat) (y:LY) (pv:Value) (hm:Nat) (nv:Value):Prop:=w.heap[k]? =some (.cells (rsC r kl y pv hm nv) 128 (0,0))
abbrev rtC (k:Nat) (tv:Value) (T:TG):Array Value:= #[pQ k,tv, .bool T.ended,iV T.bad]
def ni (w:World) (t k:Nat) (tv:Value) (T:TG):Prop:=w.heap[t]? =some (.cells (rtC k tv T) 135 (0,0))
section
variable {w w':World} {F X:Nat->Prop} {r s k kl t hm:Nat} {S:DS} {y:LY} {L:LG} {G:SG} {T:TG} {pv nv tv:Value} {ps us:List (Nat×List Int)}
def lj.lt (h:lj w k r kl y pv hm nv):k<w.heap.size:=aq h
def lj.aw (h:lj w k r kl y pv hm nv) (a:aa Z w w') (b:¬Z k):lj w' k r kl y pv hm nv:=(a.block k h.lt b).trans h
def lj.later (h:lj w k r kl y pv hm nv) (a:bW w w'):lj w' k r kl y pv hm nv:=(a.block k h.lt).trans h
def lj.c0 (h:lj w k r kl y pv hm nv):w.cell? (aD k 0)=some (pQ r):=aM h
def lj.c1 (h:lj w k r kl y pv hm nv):w.cell? (aD k 1)=some (pQ kl):=bG h
def lj.c2 (h:lj w k r kl y pv hm nv):w.cell? (aD k 2)=some (iV (y.log:Int)):=bK h
def lj.c3 (h:lj w k r kl y pv hm nv):w.cell? (aD k 3)=some (iV (y.home:Int)):=fQ h
def lj.c4 (h:lj w k r kl y pv hm nv):w.cell? (aD k 4)=some (iV (y.blocks:Int)):=gG h
def lj.c5 (h:lj w k r kl y pv hm nv):w.cell? (aD k 5)=some (iV (y.nodes:Int)):=sb h
def lj.c6 (h:lj w k r kl y pv hm nv):w.cell? (aD k 6)=some (iV (y.data:Int)):=wZ h
def lj.c7 (h:lj w k r kl y pv hm nv):w.cell? (aD k 7)=some pv:=rt h
def lj.c8 (h:lj w k r kl y pv hm nv):w.cell? (aD k 8)=some (iV (hm:Int)):=Dp h
def lj.c9 (h:lj w k r kl y pv hm nv):w.cell? (aD k 9)=some nv:=ahn h
def lj.fz (h:lj w k r kl y pv hm nv) (j:Nat):w.frozen? (aD k j)=false:=ae h j
def ni.lt (h:ni w t k tv T):t<w.heap.size:=aq h
def ni.aw (h:ni w t k tv T) (a:aa Z w w') (b:¬Z t):ni w' t k tv T:=(a.block t h.lt b).trans h
def ni.later (h:ni w t k tv T) (a:bW w w'):ni w' t k tv T:=(a.block t h.lt).trans h
def ni.c0 (h:ni w t k tv T):w.cell? (aD t 0)=some (pQ k):=aM h
def ni.c1 (h:ni w t k tv T):w.cell? (aD t 1)=some tv:=bG h
def ni.c2 (h:ni w t k tv T):w.cell? (aD t 2)=some (.bool T.ended):=bK h
def ni.c3 (h:ni w t k tv T):w.cell? (aD t 3)=some (iV T.bad):=fQ h
def ni.fz (h:ni w t k tv T) (j:Nat):w.frozen? (aD t j)=false:=ae h j
structure iL (w:World) (F X:Nat->Prop) (r s:Nat) (S:DS) (k kl:Nat) (G:SG) (pv:Value) (ps:List (Nat×List Int)) (hm:Nat) (nv:Value):Prop where
 st:lj w k r kl G.y pv hm nv
 lp:cK w kl r G.L
 pl:Pl w X pv ps
 xk:X k
 xl:X kl
 fM:∀g,X g->¬F g
 lt:∀g,X g->g<w.heap.size
 lk:G.L.Ok s
 bg:G.L.begun=true
 hs:G.y.home+G.y.blocks<=s
 lh:G.L.f+2+G.L.n<=G.y.home
 ov:G.ov=CM.bT [] (ps.drop hm)
 hm:hm<=ps.length
 kb:∀x∈ps,x.1<G.y.blocks
 un:G.L.dead S=false->∀b,b<G.y.blocks->CM.get G.ov b=none->∀c,jB ps b=some c->S.now (G.y.home+b)=c
structure nY (w:World) (X:Nat->Prop) (k t:Nat) (G:SG) (T:TG) (tv:Value) (us:List (Nat×List Int)):Prop where
 tx:ni w t k tv T
 xt:X t
 pl:Pl w X tv us
 nd:(us.map (·.1)).Nodup
 pu:T.ended=false->T.puts=CM.bT [] us
 kb:∀x∈us,x.1<G.y.blocks
 Eg:us.length<=16
def iL.kne (h:iL w F X r s S k kl G pv ps hm nv):k≠kl:=λe=>by
 have a:=h.st;have b:=h.lp;unfold lj at a;unfold cK at b;rw [e,b] at a;simp at a
def iL.aw (h:iL w F X r s S k kl G pv ps hm nv) (b:aa Z w w') (a:∀g,X g->¬Z g):iL w' F X r s S k kl G pv ps hm nv:=
   ⟨h.st.aw b (a _ h.xk),h.lp.aw b (a _ h.xl),h.pl.aw b (λg e=>a _ (h.pl.row g e)) (λg _ _ d _=>a g d),h.xk,h.xl,h.fM,λg c=>i5 (h.lt g c) b.size,h.lk,h.bg,h.hs,h.lh,h.ov,h.hm,h.kb,h.un⟩
def iL.later (h:iL w F X r s S k kl G pv ps hm nv) (a:bW w w'):iL w' F X r s S k kl G pv ps hm nv:=h.aw (aa.ah (λ_=>False) a) (λ_ _ h=>h)
def nY.aw (h:nY w X k t G T tv us) (b:aa Z w w') (a:∀g,X g->¬Z g):nY w' X k t G T tv us:=
   ⟨h.tx.aw b (a _ h.xt),h.xt,h.pl.aw b (λg e=>a _ (h.pl.row g e)) (λg _ _ c _=>a g c),h.nd,h.pu,h.kb,h.Eg⟩
def nY.later (h:nY w X k t G T tv us) (a:bW w w'):nY w' X k t G T tv us:=h.aw (aa.ah (λ_=>False) a) (λ_ _ h=>h)
def iL.block (h:iL w F X r s S k kl G pv ps hm nv) (hd:G.L.dead S=false) {b:Nat} (f:b<G.y.blocks):(jB ps b).getD (S.now (G.y.home+b))=G.block S b:=by
 have a:CM.get G.ov b=jB (ps.drop hm) b:=by rw [h.ov];exact gZ _ _
 have e:jB ps b=(jB (ps.drop hm) b).or (jB (ps.take hm) b):=by rw [<-l8,List.take_append_drop]
 unfold SG.block;rw [a];cases d:jB (ps.drop hm) b with
 |some c=>rw [e,d];rfl
 |none=>
  cases g:jB ps b with
  |none=>rfl
  |some c=>exact(h.un hd b f (by rw [a,d]) c g).symm
def sM (hd:aC w F r s S) (h:lj w k r kl y pv hm nv) (a:cK w kl r L):
  Calls prog 125 #[pQ k] w λe w'=>e= .returned (.bool (L.dead S))/\bW w w':=by
 have b:=h.c1;go_in;go_wp2_with fail;refine(vp hd a).mono ?_;rintro e w1 ⟨rfl,ar⟩;go_wp2;go_ret;exact⟨rfl,ar⟩
def kq (hd:aC w F r s S) (h:iL w F X r s S k kl G pv ps hm nv) (b:ni w t k tv T):
  Calls prog 82 #[pQ t] w λe w'=>e= .returned (iV (T.state G S))/\bW w w':=by
 have a:=sM hd h.st h.lp;have f:=b.c0;unfold TG.state TG.bT;cases yD:G.L.dead S
 .rw [yD] at a;simp only [Bool.false_eq_true,if_false];cases d:T.ended
  .simp only [Bool.false_eq_true,if_false,ne_eq,not_true_eq_false];go_in;go_wp2_with fail;refine bM a λw1 ar=>?_;have c:=(b.later ar).c2;have g:=(b.later ar).c3;rw [d] at c;go_wp2;go_ret;exact⟨rfl,ar⟩
  .simp only [if_true,ne_eq,show¬(4:Int)=0 by decide,not_false_eq_true];go_in;go_wp2_with fail;refine bM a λw1 ar=>?_;have c:=(b.later ar).c2;rw [d] at c;go_wp2;go_ret;exact⟨rfl,ar⟩
 .rw [yD] at a;simp only [if_true,ne_eq,show¬(3:Int)=0 by decide,not_false_eq_true];go_in;go_wp2_with fail;refine bM a λw1 ar=>?_;go_wp2;go_ret;exact⟨rfl,ar⟩
def ni.bad (h:ni w t k tv T) (x:Int):ni (w.setCell ⟨t,3,none⟩ (.int .i64 x)) t k tv {T with bad:=x}:=
   (heap_setCell_same _ _ 3 _ _ _ h).trans (by simp)
def ni.end_ (h:ni w t k tv T):ni (w.setCell ⟨t,2,none⟩ (.bool true)) t k tv {T with ended:=true}:=
   (heap_setCell_same _ _ 2 _ _ _ h).trans (by simp)
def iL.adr (h:iL w F X r s S k kl G pv ps hm nv) (b:ni w t k tv T) (c:aa (λj=>j=t) w w'):iL w' F X r s S k kl G pv ps hm nv:=by
 refine⟨h.st.aw c (λe=>?_),h.lp.aw c (λe=>?_),h.pl.other b (by decide) (by decide) c,h.xk,h.xl,h.fM,λg d=>i5 (h.lt g d) c.size,h.lk,h.bg,h.hs,h.lh,h.ov,h.hm,h.kb,h.un⟩
 .have a:=h.st;unfold lj at a;unfold ni at b;rw [e,b] at a;simp at a
 .have a:=h.lp;unfold cK at a;unfold ni at b;rw [e,b] at a;simp at a
end
end
section
section
variable {w w':World} {F X:Nat->Prop} {r s k kl t hm:Nat} {S:DS} {y:LY} {L:LG} {G:SG} {T:TG} {pv nv tv:Value} {ps us:List (Nat×List Int)}
def Ks (hd:aC w F r s S) (h:iL w F X r s S k kl G pv ps hm nv) (m:ni w t k tv T) (x:Int):
  Calls prog 84 #[pQ t,iV x] w λe w'=>e= .returned (iV (T.mE G S x).1)/\ni w' t k tv (T.mE G S x).2/\aa (λj=>j=t) w w':=by
 have f:=kq hd h m;have i:=m;obtain⟨R,a⟩:=bQ (T.mE G S x);rw [<-a];unfold TG.mE at a;generalize T.state G S=E at*;clear h m hd;by_cases q:E=0
 .have d:(E != 0)=false:=by rw [q];rfl
  rw [aB (λh=>h q)] at a;clear q;by_cases b:x=6\/x=50\/x=60\/x=61
  .rw [aG b] at a;have g:=a;clear a;rcases b with rfl|rfl|rfl|rfl;all_goals
    go_in;go_wp2_with fail;refine bM f λw1 ar=>?_;have wH:=i.later ar;obtain⟨n,z,l,c⟩:=cO wH.c3 (wH.fz 3) wH ar;clear f ar wH;go_wp2;go_ret;rw [g];exact⟨rfl,l.bad _,(aa.ah _ c).trans (aa.setCell (F:=λj=>j=t) _ (p:=(aD t 3)) rfl _) (λ_ h=> .inl h)⟩
  .rw [aB b] at a;have g:=a;clear a;have o:(x != 6)=true:=(by rw [gA];intro e;exact b (.inl e));have u:(x != 50)=true:=(by rw [gA];intro e;exact b (.inr (.inl e)));have v:(x != 60)=true:=(by rw [gA];intro e;exact b (.inr (.inr (.inl e))));have y:(x != 61)=true:=(by rw [gA];intro e;exact b (.inr (.inr (.inr e))));clear b;go_in;go_wp2_with fail;refine bM f λw1 ar=>?_;have c:=ar;clear f ar;go_wp2;go_ret;rw [g];exact⟨rfl,i.later c,aa.ah _ c⟩
 .have d:(E != 0)=true:=by rw [gA];exact q
  rw [aG q] at a;have g:=a;clear q a;go_in;go_wp2_with fail;refine bM f λw1 ar=>?_;have c:=ar;clear f ar;go_wp2;go_ret;rw [g];exact⟨rfl,i.later c,aa.ah _ c⟩
def Kt (hd:aC w F r s S) (h:iL w F X r s S k kl G pv ps hm nv) (m:ni w t k tv T):
  Calls prog 88 #[pQ t] w λe w'=>e= .returned (iV (T.abort G S).1)/\ni w' t k tv (T.abort G S).2.1/\aa (λj=>j=t) w w':=by
 have b:=sM hd h.st h.lp;have n:=m.c0;have f:=m;obtain⟨R,a⟩:=bQ (T.abort G S);rw [<-a];unfold TG.abort TG.bT at a;clear h m hd;cases yD:G.L.dead S
 .rw [yD] at b a;simp only [Bool.false_eq_true,if_false] at a;cases g:T.ended
  .simp only [g,Bool.false_eq_true,if_false,ne_eq,not_true_eq_false] at a;have d:=a;clear a;go_in;go_wp2_with fail;refine bM b λw1 ar=>?_;have wH:=f.later ar;have l:=wH.c2;have o:=wH.fz 2;rw [g] at l;have i:=wH;have c:=ar;clear b ar wH;go_wp2;go_ret;rw [d];exact⟨rfl,i.end_,(aa.ah _ c).trans (aa.setCell (F:=λj=>j=t) _ (p:=(aD t 2)) rfl _) (λ_ h=> .inl h)⟩
  .simp only [g,if_true,ne_eq,show¬(4:Int)=0 by decide,not_false_eq_true] at a;have d:=a;clear a;go_in;go_wp2_with fail;refine bM b λw1 ar=>?_;have l:=(f.later ar).c2;rw [g] at l;have c:=ar;clear b ar;go_wp2;go_ret;rw [d];exact⟨rfl,f.later c,aa.ah _ c⟩
 .rw [yD] at b a;simp only [if_true,ne_eq,show¬(3:Int)=0 by decide,not_false_eq_true] at a;have d:=a;clear a;go_in;go_wp2_with fail;refine bM b λw1 ar=>?_;have c:=ar;clear b ar;go_wp2;go_ret;rw [d];exact⟨rfl,f.later c,aa.ah _ c⟩
def XV (w:World) (nv:Value) (busy:Bool):Prop:=(nv= .pointer none/\busy=false)\/∃t,nv=pQ t/\t<w.heap.size/\w.cell? (aD t 2)=some (.bool (!busy))
def xY (w w':World) (k r kl:Nat) (y:LY) (pv:Value) (hm:Nat) (nv:Value) (code:Int) (e:Ending):Prop:=
 if code≠0 then e= .returned (.tuple #[.pointer none,iV code])/\lj w' k r kl y pv hm nv/\bW w w'
 else∃t,e= .returned (.tuple #[pQ t,iV 0])/\w.heap.size<=t/\ni w' t k (.slice none 0 0) ⟨[],0,false⟩/\lj w' k r kl y pv hm (pQ t)/\aa (λj=>j=k) w w'
def lj.now (h:lj w k r kl y pv hm nv) (v:Value):lj (w.setCell ⟨k,9,none⟩ v) k r kl y pv hm v:=
   (heap_setCell_same _ _ 9 _ _ _ h).trans (by simp)
def iF (b:bW w w') {t:Nat} (c:t<w.heap.size) (a:w.cell? (aD t j)=some v):w'.cell? (aD t j)=some v:=by
 have:=b.block t c;simp only [World.cell?] at a⊢;rw [this];exact a
def zQ (hd:aC w F r s S) (h:lj w k r kl G.y pv hm nv) (n:cK w kl r G.L) (f:XV w nv G.busy):
  Calls prog 71 #[pQ k] w λe w'=>xY w w' k r kl G.y pv hm nv (G.begin S) e:=by
 have a:=sM hd h n;have d:=h;have oc:=h.lt;unfold xY SG.begin;clear h n hd;cases yD:G.L.dead S
 .rw [yD] at a;simp only [Bool.false_eq_true,if_false];cases m:G.busy
  .simp only [Bool.false_eq_true,if_false,ne_eq,not_true_eq_false];rw [m] at f;rcases f with ⟨rfl,_⟩|⟨t,rfl,i,c⟩
   .go_in;go_wp2_with fail;refine bM a λw1 ar=>?_;have eh:=d.later ar;have l:=eh.c9;have dC:=ar.size;have bo:=eh.later ((bi w1.heap.size w1).alloc (bS _) (.cells #[.pointer (some ⟨k,0,none⟩), .slice none 0 0, .bool false, .int .i64 0] 135));obtain⟨g,o,xy,b⟩:=cO bo.c9 (bo.fz 9) bo ar;clear a ar eh bo;go_wp2;go_ret2;refine⟨w1.heap.size,rfl,by omega,?_,xy.now _,((aa.ah _ b).trans (aa.alloc (λj=>j=k) w1 _) (λ_ h=> .inl h)).trans (aa.setCell (F:=λj=>j=k) _ (p:=(aD k 9)) rfl _) (λ_ h=> .inl h)⟩;exact(Below.heap_setCell _ _ _ _ (by show w1.heap.size≠k;omega)).trans (heap_alloc_new _ _)
   .go_in;go_wp2_with fail;refine bM a λw1 ar=>?_;have eh:=d.later ar;obtain⟨l,V0,dC,bo⟩:=cO eh.c9 (iF ar i c) ar.size (eh.later ((bi w1.heap.size w1).alloc (bS _) (.cells #[.pointer (some ⟨k,0,none⟩), .slice none 0 0, .bool false, .int .i64 0] 135)));obtain⟨g,o,xy,b⟩:=cO bo.c9 (bo.fz 9) bo ar;clear a ar eh bo c;go_wp2;go_ret2;refine⟨w1.heap.size,rfl,by omega,?_,xy.now _,((aa.ah _ b).trans (aa.alloc (λj=>j=k) w1 _) (λ_ h=> .inl h)).trans (aa.setCell (F:=λj=>j=k) _ (p:=(aD k 9)) rfl _) (λ_ h=> .inl h)⟩;exact(Below.heap_setCell _ _ _ _ (by show w1.heap.size≠k;omega)).trans (heap_alloc_new _ _)
  .simp only [if_true,ne_eq,show¬(5:Int)=0 by decide,not_false_eq_true];rw [m] at f;rcases f with ⟨_,h0⟩|⟨t,rfl,i,c⟩
   .cases h0
   .go_in;go_wp2_with fail;refine bM a λw1 ar=>?_;have eh:=d.later ar;obtain⟨l,V0,oV,b⟩:=cO eh.c9 (iF ar i c) eh ar;clear a ar eh c;go_wp2;go_ret2;exact⟨rfl,oV,b⟩
 .rw [yD] at a;simp only [if_true,ne_eq,show¬(3:Int)=0 by decide,not_false_eq_true];go_in;go_wp2_with fail;refine bM a λw1 ar=>?_;have oV:=(d.later ar);have b:=ar;clear a ar;go_wp2;go_ret2;exact⟨rfl,oV,b⟩
def Ku (hd:aC w F r s S) (h:iL w F X r s S k kl G pv ps hm nv) (aU:S.puts.length+1<=4000000000000):
  Calls prog 73 #[pQ k] w λe w'=>e= .returned (iV (G.L.sync S s).1)/\aC w' F r s (G.L.sync S s).2/\aa F w w':=by
 have b:=CN hd h.lp (h.fM _ h.xl) aU;have d:=h.st.c1;generalize G.L.sync S s=Z at*;go_in;go_wp2_with fail;refine pj b λw1 hd _ c=>?_;have a:=(aH hd c);go_wp2;go_ret;exact⟨rfl,a⟩
def ZR (w':World) (F X:Nat->Prop) (l:List Int) (e:Ending):Prop:=∃g c,e= .returned (.slice (some (aD g 0)) 512 c)/\(X g\/F g)/\ay w' 5 g c (bs l)
def zR (hd:aC w F r s S) (h:iL w F X r s S k kl G pv ps hm nv) (LV:G.L.dead S=false) (b:Nat) (D:b<G.y.blocks) (aU:S.puts.length<=4000000000000) (V9:ps.length<=4000000000000):
  Calls prog 133 #[pQ k,iV (b:Int)] w λe w'=>ZR w' F X (G.block S b) e/\bW w w':=by
 have d:=qW h.pl.pv b (by omega);have XU:=h.hs;have si:=hd.ok.hi;obtain⟨f,lx,t,u,H,q⟩:=jE (jM (hd.later (ai (bi w.heap.size w))) (G.y.home+b) (by omega) (by omega)) (h.block LV D) h.st.c0 h.st.c3 h.st.c7 Ro;clear h hd;cases v:jB ps b with
 |some l=>
  rw [v] at d lx;have a:=lx;clear lx f;go_in;go_wp2_with fail;refine d.mono ?_;rintro e w1 ⟨n,o⟩;subst o;rcases n with ⟨h0,_⟩|⟨E,g,c,m,rfl,C,i⟩
  .cases h0
  cases m;have z:=i;clear d i;go_wp2;go_ret;refine⟨⟨g,c,rfl, .inl C,?_⟩,bi _ _⟩;rw [<-a];exact z
 |none=>
  rw [v] at d lx;have a:=lx;clear lx;have ud:((G.y.home+b:Nat):Int)=(G.y.home:Int)+(b:Int):=by omega
  rw [ud] at f;go_in;go_wp2_with fail;refine d.mono ?_;rintro e w1 ⟨n,o⟩;subst o;rcases n with ⟨_,rfl⟩|⟨E,g,c,m,_⟩
  .have xZ:IntKind.i64.wrap ((G.y.home:Int)+(b:Int))=(G.y.home:Int)+(b:Int):=(by rw [IntKind.wrap_i64];omega);rw [<-xZ] at f;have x:=f;clear d f xZ;go_wp2_with fail;clear q;go_region_held3 (λw'=>w'.cell? (aD k 0)=some (pQ r)/\w'.cell? (aD k 3)=some (iV (G.y.home:Int)))
    (first|exact⟨t,u⟩|exact p)
      ((go_at_call 69;refine x.mono ?_;rintro e j ⟨g,c,rfl,A,i,dE⟩;have p:j.cell? (aD k 0)=some (pQ r)/\j.cell? (aD k 3)=some (iV (G.y.home:Int)):=(by rw [dE];exact⟨t,u⟩);have fy:ay j 5 g c (bs (S.now (G.y.home+b))):=(by rw [dE];exact i);have bd:bW w1 j:=(by rw [dE];exact ai (bi _ _));clear dE i))
   go_wp2;go_ret;refine⟨⟨g,c,rfl, .inr A,?_⟩,bd⟩;rw [<-a];exact fy
  .cases m
end
end
def vq.meets {m:Nat} {D:DataW Value} (h:vq w m ms D) {x:Int} {ca:Array Value} {b:Lit} {y:DataW Value} {j:List MemPlace} (gT:keyOf prog 3 (iV x)=some b) (g:Ra (.agg ca)=some (y,j)) (is:∀zd,D.atKey b zd=y):
  ∃(k:Nat) (c:List Int),x=(k:Int)/\b=kk k/\CM.get ms k=some c/\Value.agg ca=cV c:=by
 obtain⟨k,i,oc,f⟩:=h.met gT is;obtain⟨c,d⟩:=Option.isSome_iff_exists.1 f;refine⟨k,c,i,oc,d,?_⟩;have a:=(h.at' k c d).2 (.held (.bool false));rw [<-oc,is] at a;obtain⟨e,_⟩:=D8 g;rw [e] at a;exact ub a
def GF:prog.eqGuardType prog.depth 91=false:=by kernel_rfl
def RU (l m:List Int) (a:l.length=512) (b:m.length=512) (w:World) (x y:Operand):
    (do eqGuard .eql 91 x y (.agg (bs l).toArray) (.agg (bs m).toArray);binOp .eql 91 (.agg (bs l).toArray) (.agg (bs m).toArray)).run prog w= .ok (.bool (decide (l=m))) w:=by
 rw [Sem.run_bind,run_eqGuard_agg (P:=prog) w .eql 91 x y _ _ GF,Result.andThen_ok];show (binOp .eql 91 (.agg (bs l).toArray) (.agg (bs m).toArray)).run prog w=_;unfold binOp Op.equal Op.maxDepth;rw [Sem.run_bind,Jy 512 9998 91 l m a b w underlying91,Result.andThen_ok,Sem.run_pure]
def RV (l m:List Int) (a:l.length=512) (b:m.length=512) (w:World) (x y:Operand):
    (do eqGuard .neq 91 x y (.agg (bs l).toArray) (.agg (bs m).toArray);binOp .neq 91 (.agg (bs l).toArray) (.agg (bs m).toArray)).run prog w= .ok (.bool (!decide (l=m))) w:=by
 rw [Sem.run_bind,run_eqGuard_agg (P:=prog) w .neq 91 x y _ _ GF,Result.andThen_ok];show (binOp .neq 91 (.agg (bs l).toArray) (.agg (bs m).toArray)).run prog w=_;unfold binOp Op.equal Op.maxDepth;rw [Sem.run_bind,Jy 512 9998 91 l m a b w underlying91,Result.andThen_ok,Sem.run_pure]
def rS {b:Array Oper} {rest:List Oper} {c:Oper} {a:Act} {Q:Exit->Act->World->Prop} (FU:c.guard=none) (x y:Operand) (T:TypeId) (j:c.op= .binOp .eql 91 x y T)
    (A C:List Value) (l m:List Int) (d:A=bs l) (e:C=bs m) (n:a.eval x= .agg A.toArray) (o:a.eval y= .agg C.toArray) (g:l.length=512) (i:m.length=512) (v:Bool) (k:decide (l=m)=v)
    (h:wpList prog b Q rest (a.put c.dst (.bool v)) w):wpList prog b Q (c :: rest) a w:=
 wpList_plain FU λK f=>by
  subst d e k;unfold Oper.wp execOp;simp only [j,n,o];have:=RU l m g i w x y;rw [Sem.run_bind,this];exact f _ _ h
def rT {b:Array Oper} {rest:List Oper} {c:Oper} {a:Act} {Q:Exit->Act->World->Prop} (FU:c.guard=none) (x y:Operand) (T:TypeId) (j:c.op= .binOp .neq 91 x y T)
    (A C:List Value) (l m:List Int) (d:A=bs l) (e:C=bs m) (n:a.eval x= .agg A.toArray) (o:a.eval y= .agg C.toArray) (g:l.length=512) (i:m.length=512) (v:Bool) (k:(!decide (l=m))=v)
    (h:wpList prog b Q rest (a.put c.dst (.bool v)) w):wpList prog b Q (c :: rest) a w:=
 wpList_plain FU λK f=>by
  subst d e k;unfold Oper.wp execOp;simp only [j,n,o];have:=RV l m g i w x y;rw [Sem.run_bind,this];exact f _ _ h
def TG.put (T:TG) (G:SG) (S:DS) (b:Int) (d:List Int):Int×TG:=
 if T.refusal G S b≠0 then (T.refusal G S b,T) else if d.length≠512 then (2,T) else if d=T.jY G S b.toNat then (0,T)
 else if (CM.get T.puts b.toNat).isSome=false/\T.puts.length=16 then (50,{T with bad:=50}) else (0,{T with puts:=CM.put T.puts b.toNat d})
section
def zS (w w':World) (F:Nat->Prop) (p s c q t n:Nat) (S:DS) (r:Int×TG) (e:Ending):Prop:=
 e= .returned (iV r.1)/\w'.heap[t]? =some (.cells (BI q n r.2) 88 (0,0))/\Ch w' n r.2.puts/\B.ax w' F p s S c/\aa (λk=>F k\/k=t\/k=n) w w'
def Kv (g:Option (List Int)) (a:∀c,g=some c->c.length=512):∃CL:List Value,adj g= .agg CL.toArray/\CL.length=512/\CL.toArray.all Value.oneCell'=true/\(prog.info? 91).map (·.size)=some CL.length:=by
 cases g with
 |none=>exact⟨bs (zs 512),rfl,by rw [bs,List.length_map,bH],all_oneCell_toArray (cF _),eQ (bH 512)⟩
 |some c=>exact⟨bs c,rfl,by rw [bs,List.length_map,a c rfl],all_oneCell_toArray (cF _),eQ (a c rfl)⟩
def Eh (w:World) {A:List Value} (a:A.length=512):bW w ((w.alloc (.cells bm 91)).setCells w.heap.size 0 A)/\(w.alloc (.cells bm 91)).there w.heap.size 0 A.length:=by
 have bO:(w.alloc (.cells bm 91)).heap[w.heap.size]? =some (.cells bm 91 (0,0)):=heap_alloc_new _ _;have bN:bW w (w.alloc (.cells bm 91)):=(bi _ w).alloc (bS _) _;refine⟨bN.trans ((aa.setCells (F:=λj=>j=w.heap.size) rfl A 0 _).below (λj b=>by omega) bN.size),?_⟩;rw [a];exact(cH bO cP)
section
variable {w w':World} {F:Nat->Prop} {p s cR q l m t n:Nat} {S:DS} {G:SG} {T:TG}
def Wa (h:it w F p s cR q l m S G) (W:mD w F q l m t n G T) (b:Int) (a:Option Addr) (x c:Nat) (d:List Int) (U:Src w a x d) (hx:x<=140737488355328) (xE:Bytes d) (aU:S.puts.length+1<=4000000000000):
  Calls prog 78 #[pQ t,iV b, .slice a x c] w λe w'=>zS w w' F p s (cR+1) q t n S (T.put G S b d) e:=by
 obtain⟨h1,HS,HT,UB,HX⟩:=eK (zO h W b) (yh h) (yh W) U.1 (yh U);have zT:∀w1,bW w w1->∀z:Int,zS w w1 F p s (cR+1) q t n S (z,T) (.returned (iV z)):=λw1 ar z=>⟨rfl,(HT.o.later ar).tx,(HT.o.later ar).ch,(HS.o.d.later ar).le (by omega),aa.ah _ ar⟩;have XW:=yh zT;obtain⟨R,i⟩:=bQ (T.put G S b d);rw [<-i];unfold TG.put at i;go_in;go_wp2_with fail;by_cases k:T.refusal G S b=0
 .rw [aB (λh=>h k)] at i;obtain⟨r1,r2,r3,r4,r5⟩:=iW k;obtain⟨b,rfl⟩:∃b':Nat,b=(b':Int):=⟨b.toNat,by omega⟩;rw [k] at h1;rw [Int.toNat_natCast] at i;refine bM h1 λw1 ar=>?_;by_cases H:d.length=512
  .rw [aB (λh=>h H)] at i;have xF:=yh i;clear i;obtain rfl:x=512:=(by omega);obtain⟨b0,o0,rfl⟩:=cX U (by omega);have hb:b<G.y.blocks:=(by omega);obtain⟨f,RE,Fj,hLt⟩:=cO (zP h W b hb) jl (vz r1) h.d.lt;have iK:=yh hLt;have Zm:=zL (some (aD b0 o0)) c;have aW:=eQ H;have dL:=cF d;obtain⟨A,hA⟩:=bQ (bs d);rw [<-hA] at aW dL;have qh:A.length=512:=(by rw [hA,bs,List.length_map,H]);have bV:=all_oneCell_toArray dL;have I:=yh hA;have HR:=yh (aH r1 (aH r2 r3));clear h W U zT k r1 r2 r3 r4 r5 dL hA hLt;have adt:w1.rangeAt b0 o0 A:=(by rw [I.o];exact nD (HX.o.later ar));have bw:=eU w1 H;rw [<-I.o] at bw;have ef:=bw.2.2;obtain⟨wB,Wb⟩:=bQ ((w1.alloc (.cells bm 91)).setCells w1.heap.size 0 A);have Mu:bW w wB:=ar.trans (by rw [Wb];exact bw.2.1.mono ar.size);have aV:j8 wB 91 w1.heap.size d:=(by rw [Wb];exact bw.1);obtain⟨dC,h2,K,adu,HwB⟩:=eK ar.size (GE (HS.o.later Mu) (HT.o.later Mu) b hb Fj aU) (yh Mu) (yh aV) (yh Wb);clear h1 ar bw Mu aV Wb
   go_upto_region 7 with (first|refine wpList_load_mid rfl 91 _ rfl b0 o0 rfl A _ adt underlying91 rfl aW ?_|refine wpList_store_mid rfl 91 _ _ rfl w1.heap.size 0 A.toArray rfl rfl ?h1 ?h2 bV ?_)
   case h1=>first|simpa using ef|(rw [qh] at ef;simpa using ef)
   case h2=>simpa using aW
   have ait:=HwB.o;subst ait;generalize N2:(w1.alloc (.cells bm 91)).setCells w1.heap.size 0 A=wB at*;clear N2 adt ef HwB Zm;unfold cV at h2;obtain⟨C,hC⟩:=bQ (bs (T.jY G S b));rw [<-hC] at h2;have Z:=yh hC;clear hC;go_wp2_with fail;refine fR h2 λu cI aY=>?_;obtain⟨eu,hzB,bw,lZ,wI⟩:=eK aY.size adu.o.lt (eU u f) (eQ f) (cF (T.jY G S b));rw [<-Z.o] at bw lZ wI;have ZS:C.length=512:=(by rw [Z.o,bs,List.length_map,f]);have GG:=all_oneCell_toArray wI;have ef:=bw.2.2;have jk:¬F w1.heap.size:=λhf=>by have:=iK.o _ hf;omega
   obtain⟨r,Wc⟩:=bQ ((u.alloc (.cells bm 91)).setCells u.heap.size 0 C);have I6:bW u r:=(by rw [Wc];exact bw.2.1);have CP:j8 r 91 u.heap.size (T.jY G S b):=(by rw [Wc];exact bw.1);have zU:=(adu.o.aw (aY.block _ hzB jk)).aw (I6.block _ (by omega));have raA:r.rangeAt w1.heap.size 0 A:=λj v O=>by
    have:=zU.news j v (by rw [<-I.o];exact O);rwa [aN] at this
   have Q:r.rangeAt u.heap.size 0 C:=λj v O=>by
    have:=CP.news j v (by rw [<-Z.o];exact O);rwa [aN] at this
   have hsD:=((HS.o.later K.o).asked cI aY).later I6;have htD:=((HT.o.later K.o).asked aY).later I6;have XX:=yh (((aa.ah F K.o).trans aY (λ_ h=> .inl h)).trans (aa.ah (λ_=>False) I6) (λ_ h=>h.elim):aa F w r);obtain⟨HsD,g,N,Y,hzD⟩:=eK (yh hsD) (yh htD) (yh Wc) (yh zU) I6.size;clear h2 cI aY bw wI I6 CP zU hsD htD Wc;by_cases X:d=T.jY G S b
   .have dv:=decide_eq_true X;have UC:=yh X;clear X;have ZT:=N.o;subst ZT;go_wp2_with (first|refine wpList_store_mid rfl 91 _ _ rfl u.heap.size 0 C.toArray rfl rfl ?h1 ?h2 GG ?_|refine wpList_load_mid rfl 91 _ rfl w1.heap.size 0 rfl A _ raA underlying91 rfl aW ?_|refine wpList_load_mid rfl 91 _ rfl u.heap.size 0 rfl C _ Q underlying91 rfl lZ ?_|refine rS rfl _ _ _ rfl A C d (T.jY G S b) I.o Z.o rfl rfl H f true dv ?_);case h1=>first|simpa using ef|(rw [ZS] at ef;simpa using ef)
    case h2=>simpa using lZ
    go_ret;rw [xF.o,aG UC.o];exact⟨rfl,g.o.tx,g.o.ch,HsD.o.d,XX.o.mono (λ_ h=> .inl h)⟩
   .have dv:=decide_eq_false X;have UC:=yh X;clear X;have ZT:=N.o;subst ZT
    go_upto_region 12 with (first|refine wpList_store_mid rfl 91 _ _ rfl u.heap.size 0 C.toArray rfl rfl ?h3 ?h4 GG ?_|refine wpList_load_mid rfl 91 _ rfl w1.heap.size 0 rfl A _ raA underlying91 rfl aW ?_|refine wpList_load_mid rfl 91 _ rfl u.heap.size 0 rfl C _ Q underlying91 rfl lZ ?_|refine rS rfl _ _ _ rfl A C d (T.jY G S b) I.o Z.o rfl rfl H f false dv ?_)
    case h3=>first|simpa using ef|(rw [ZS] at ef;simpa using ef)
    case h4=>simpa using lZ
    generalize N2:(u.alloc (.cells bm 91)).setCells u.heap.size 0 C=r at*;clear N2 ef N Q;have bd:b<2048:=(by have:=HS.o.hs;have:=HS.o.d.ok.hi;omega);have gU:=g.o.ch.look b bd;obtain⟨CL,hcv,adw,adx,ZU⟩:=Kv (CM.get T.puts b) (λc hc=>(g.o.ch.len _ (CM.get_mem hc)).2.1);rw [hcv] at gU;have bw:=Eh r adw;have ef:=bw.2;have c1:=g.o.c1;obtain⟨J,P⟩:=bQ ((r.alloc (.cells bm 91)).setCells r.heap.size 0 CL);have D:bW r J:=(by rw [P];exact bw.1);obtain⟨M,Mv,XY,L,HwE⟩:=UV (HsD.o.later D) (g.o.later D) (XX.o.trans (aa.ah (λ_=>False) D) (λ_ h=>h.elim):aa F w J) (Y.o.aw (D.block _ (aq Y.o)):j8 J 91 w1.heap.size d) P;clear bw D P hcv
    go_upto_region 13 with (refine wpList_store_mid rfl 91 _ _ rfl r.heap.size 0 CL.toArray rfl rfl ?h5 ?h6 adx ?_)
    case h5=>first|simpa using ef|(rw [adw] at ef;simpa using ef)
    case h6=>simpa using ZU
    have aiz:=HwE.o;subst aiz;generalize N2:(r.alloc (.cells bm 91)).setCells r.heap.size 0 CL=J at*;clear N2 ef HwE gU c1;have c1:=Mv.o.c1;have alM:=λty=>Mv.o.ch.length ty;by_cases ZV:(CM.get T.puts b).isSome=false/\T.puts.length=16
    .have ka:=ZV.1;have kb:((T.puts.length:Int) == 16)=true:=(by rw [beq_iff_eq];omega);have h3:=CO M.o Mv.o 50;have e3:T.mE G S 50=(50,{T with bad:=50}):=by
      unfold TG.mE TG.state TG.bT;rw [HR.o.1,HR.o.2.1,HR.o.2.2];simp
     rw [e3] at h3;have CA:=yh ZV;clear ZV e3;go_wp2_with fail;refine fR h3 λw4 h4 h5=>?_;have HN:Yh (zS w w4 F p s (cR+1) q t n S (50,{T with bad:=50}) (.returned (iV 50))):=⟨rfl,h4,Mv.o.ch.aw h5 (λe=>Mv.o.tn e.symm),M.o.d.aw h5 (λk hk e=>Mv.o.nt (e▸hk)),(XY.o.mono (λ_ h=> .inl h)).trans h5 (λ_ e=> .inl (.inr (.inl e)))⟩;clear h3 h4 h5;go_wp2;go_ret;rw [xF.o,aB UC.o,aG CA.o];exact HN.o
    .have ZW:=Mv.o.ch.later (ai (bi _ _));obtain⟨wU,bD,nh,BJ,N6⟩:=ZW.store b bd d H xE;have RX:(Instr.mapUpdate 83 (.map (some n)) (iV (b:Int)) (.agg A.toArray)).run prog J.drew= .ok () wU:=(by rw [I.o];exact bD);have raE:J.rangeAt w1.heap.size 0 A:=λj v O=>by
      have:=L.o.news j v (by rw [<-I.o];exact O);rwa [aN] at this
     have Kw:=(aa.ah (λk=>k=n) (ai (bi J.heap.size J))).trans BJ (λ_ h=> .inl h);have HN:Yh (zS w wU F p s (cR+1) q t n S (0,{T with puts:=CM.put T.puts b d}) (.returned (iV 0))):=⟨rfl,(Kw.block t (aq Mv.o.tx) Mv.o.tn).trans Mv.o.tx,nh,M.o.d.aw Kw (λk hk e=>Mv.o.nn (e▸hk)),(XY.o.mono (λ_ h=> .inl h)).trans Kw (λ_ e=> .inl (.inr (.inr e)))⟩;have CA:=yh ZV;have HC1:=yh c1;have aoW:=underlying91;have aiA:w1.heap.size≠n:=(by have:=HT.o.ch.lt;omega);have XZ:=L.o.aw (Kw.block _ (aq L.o) aiA);have ZX:Yh (wU.cell? (aD t 1)=some (.map (some n))/\wU.rangeAt w1.heap.size 0 A):=⟨bG ((Kw.block t (aq Mv.o.tx) Mv.o.tn).trans Mv.o.tx),λj v O=>by
      have:=XZ.news j v (by rw [<-I.o];exact O);rwa [aN] at this⟩
     clear XZ;cases hg:(CM.get T.puts b).isSome
     .have kb:((T.puts.length:Int) == 16)=false:=by
       rw [fJ];intro e;exact ZV ⟨hg,by omega⟩
      clear ZV ZW bD nh BJ Kw;go_wp2_with fail;go_region_held3 (λw'=>w'.cell? (aD t 1)=some (.map (some n))/\w'.rangeAt w1.heap.size 0 A) (first|exact⟨HC1.o,raE⟩|exact ZX.o) (fail);go_wp2;go_ret;rw [xF.o,aB UC.o,aB CA.o];exact HN.o
     .clear ZV ZW bD nh BJ Kw;go_wp2_with fail;go_region_held3 (λw'=>w'.cell? (aD t 1)=some (.map (some n))/\w'.rangeAt w1.heap.size 0 A) (first|exact⟨HC1.o,raE⟩|exact ZX.o) (fail);go_wp2;go_ret;rw [xF.o,aB UC.o,aB CA.o];exact HN.o
  .rw [aG H] at i;have xF:=yh i;clear i;have dx:((x:Int) != 512)=true:=(by rw [gA];omega);clear h W U zT k r1 r2 r3 r4 r5 H;have HB:=yh ar;clear h1 ar;go_wp2;go_ret;rw [xF.o];exact XW.o _ HB.o 2
 .rw [aG k] at i;have xF:=yh i;clear i;have dk:(T.refusal G S b != 0)=true:=by rw [gA];exact k
  clear h W U zT k;generalize T.refusal G S b=E at*;refine bM h1 λw1 ar=>?_;have HB:=yh ar;clear h1 ar;go_wp2;go_ret;rw [xF.o];exact XW.o _ HB.o E
end
end
def Kx (ms ns X:CM) (left:Lit->Bool):Prop:=∀k,CM.get X k=if left (kk k)=false/\(CM.get ns k).isSome=true then CM.get ns k else CM.get ms k
def N7 {m:Nat} {D:DataW Value} (h:Ch w m ms) (t:vq w n ns D) (q:m≠n):
  Calls prog 172 #[.map (some m), .map (some n)] w λe w'=>e= .returned (.tuple #[])/\Ch w' m (CM.bT ms ns)/\aa (λk=>k=m) w w':=by
 obtain⟨B7,RE,H,i⟩:=cO h.lt jl t h;clear h t;go_in;go_wp2_with (at_range;refine wpList_range_own _ rfl _ 83 rfl 3 91 gk underlying83 Ra n ns.length D rfl H.own ?_;intro w0 pz uP yy;go_frame);have fO:=(bi _ w).grown uP (bS _) (λj b=>by cases b);clear uP;go_loopw [4] (λ_ wr=>∃(left:Lit->Bool) (el:Nat) (X:CM),wr.ranges prog 3 Ra n w.heap.size ns.length D left el/\Ch wr m X/\Kx ms ns X left/\aa (λk=>k=m) w wr/\w.heap.size+1<=wr.heap.size)
    (λ_ wr=>wr.rangeLeft n w.heap.size)
 case atStart=>
  refine⟨_,_,ms,pz,i.later fO,λk=>?_,aa.ah _ fO,by omega⟩;rw [aB];rintro ⟨h1,h2⟩;obtain⟨c,u⟩:=Option.isSome_iff_exists.1 h2;rw [(H.at' k c u).1] at h1;cases h1
 case round=>
  clear pz fO yy;obtain⟨left,el,X,mN,a,Ps,eZ,eE⟩:=hrel;go_wp2_with (at_next;refine wpList_next_ranges _ rfl _ rfl 3 gk Ra (Value.int .i64) Value.agg (λy C gT=>by obtain⟨x,rfl,_⟩:=Maps.keyOf_int_inv underlying3 gT;exact⟨x,rfl⟩) Kl n w.heap.size ns.length _ _ _ rfl mN ?_ ?_)
  .intro _ vX;have p:X=CM.bT ms ns:=by
    refine CM.ext a.ok (CM.qV i.ok ns) (λk=>?_);rw [Ps k,CM.Rk i.ok k H.ok,vX];cases E:CM.get ns k with
    |none=>simp
    |some c=>simp
   have l:=(aH (p▸a) eZ);clear mN a Ps eZ H i;go_wp2
   go_end0
   exact⟨rfl,l⟩
  .intro x ca C F I d pA gT A2 o is o8 bq fZ bo IR;obtain⟨k,c,rfl,rfl,X0,tB⟩:=H.meets gT o is;have nN:=H.len _ (CM.get_mem X0);injection tB with tB;have bw:=eU d nN.2.1;have aW:=eQ nN.2.1;have dL:=cF c;obtain⟨A,f⟩:=bQ (bs c);rw [<-f] at tB bw aW dL;have qh:A.length=512:=(by rw [f,bs,List.length_map,nN.2.1]);have bV:=all_oneCell_toArray dL;subst tB;have Mw:=a.agree (fZ.block m a.lt (λe=>by injection e with e;omega));have RY:=eZ.trans (G:=λj=>j=w.heap.size) ⟨fZ.os,fZ.tape,fZ.output,fZ.size,λj b dM=>fZ.block j b (λe=>dM (by injection e))⟩ (λj e=> .inr (by omega));obtain⟨s,Fl⟩:=bQ ((d.alloc (.cells bm 91)).setCells d.heap.size 0 A);have ef:=bw.2.2;have wG:bW d s:=(by rw [Fl];exact bw.2.1);have r:s.rangeAt d.heap.size 0 A:=λj v o=>by
    rw [Fl];have:=bw.1.news j v (by rw [<-f];exact o);rwa [aN] at this
   obtain⟨g,bD,nh,BJ,N6⟩:=(Mw.later wG).store k nN.1 c nN.2.1 nN.2.2;have RX:(Instr.mapUpdate 83 (.map (some m)) (iV (k:Int)) (.agg A.toArray)).run prog s= .ok () g:=(by rw [f];exact bD);have adA:=(o8.kept (row:=none) ⟨wG.os,wG.tape,wG.output,wG.size,λj b _=>wG.block j b⟩ (λe=>by cases e) (λe=>by cases e)).kept (row:=some m) ⟨BJ.os,BJ.tape,BJ.output,BJ.size,λj b dM=>BJ.block j b (λe=>dM (by rw [e]))⟩ (λe=>q (by injection e with e;exact e.symm)) (λe=>by injection e with e;omega);have RZ:Kx ms ns (CM.put X k c) (λz=>left z && !z.sameKey (kk k)):=λj=>by
    show CM.get (CM.put X k c) j=if (left (kk j) && !(kk j).sameKey (kk k))=false/\(CM.get ns j).isSome=true then CM.get ns j else CM.get ms j;rw [CM.kC _ _ _ _ a.ok,Ps j,lB];by_cases e:j=k
    .subst e;simp [X0]
    .simp [e]
   have l:(g.ranges prog 3 Ra n w.heap.size ns.length D (λz=>left z && !z.sameKey (kk k)) pA/\Ch g m (CM.put X k c)/\Kx ms ns (CM.put X k c) (λz=>left z && !z.sameKey (kk k))/\aa (λk=>k=m) w g/\w.heap.size+1<=g.heap.size):=⟨adA,nh,RZ,(RY.trans (aa.ah (λ_=>False) wG) (λ_ h=>h.elim)).trans BJ (λ_ h=> .inl h),by have:=wG.size;omega⟩;have ZI:=Fl;clear gT o is bo fZ a Mw Ps RZ eZ RY adA bD nh BJ N6 wG f dL X0 o8 bw nN;subst Fl;generalize bm=Z at*;go_wp2_with (first|refine wpList_store_mid rfl 91 _ _ rfl d.heap.size 0 A.toArray rfl rfl ?h1 ?h2 bV ?_|refine wpList_load_mid rfl 91 _ rfl d.heap.size 0 rfl A _ r underlying91 rfl aW ?_);case h1=>first|simpa using ef|(rw [qh] at ef;simpa using ef)
   go_roundw;case rel=>exact⟨_,pA,_,l⟩
   case measure=>rw [l.1.left_eq,mN.left_eq];exact bq
def CQ {m:Nat} (h:Ch w m ms) (b:Ch w n ns) (a:m≠n):
  Calls prog 172 #[.map (some m), .map (some n)] w λe w'=>e= .returned (.tuple #[])/\Ch w' m (CM.bT ms ns)/\aa (λk=>k=m) w w':=by
 obtain⟨D,b⟩:=b;exact N7 h b a
section
namespace B
section
variable {w:World} {F:Nat->Prop} {p s l cR:Nat} {S:DS} {L:LG}
def R0 (h:ax w F p s S cR) (A:cW w l p L) (a:L.Ok s) (m:¬F l) (dD:S.fL) (aU:S.puts.length+3<=4000000000000):
  Calls prog 128 #[pQ l] w λe w'=>e= .returned (iV (L.trim S s).1)/\ax w' (more F w w') p s (L.trim S s).2.1 (cR+2)/\cW w' l p (L.trim S s).2.2/\aa (λk=>F k\/k=l) w w':=by
 obtain⟨i,iK,bq,R,jk⟩:=eK (zK h A m (by omega)) h.lt A.lt a.s a.n1;have x:=λ(M:(L.sync S s).1=0)=>a.hb (JV M);have v:=a.ep;have Q:=nG L S s;have adC:=pU dD L s;unfold LG.trim;generalize L.sync S s=Z at*;have D:=(λ(N:Z.1=0) b (cI:ax b F p s Z.2 cR)=>Ko cI L.f L.n L.ep L.head v (x N) (by omega) (by omega) (adC.now _) (adC.now _));by_cases c:Z.1=0
 .rw [aB (λh=>h c)];have J:(Z.1 == 0)=true:=by rw [beq_iff_eq];exact c
  have y:=(D c);by_cases C:L.tail=L.head
  .rw [aG C];have K:((L.tail:Int) == (L.head:Int))=true:=(by rw [beq_iff_eq];omega);go_in;go_wp2_with fail;refine pj i λw1 iN cq ff=>?_;have z:=cq.c6;have g:=cq.c7;go_wp2_with fail;go_quiet (fail);go_wp2;go_ret;exact⟨rfl,(λj=>aH (((iN.later (below_drewN (bi _ _) j)).more (w:=w)).le (by omega:cR<=cR+2)) (aH (cq.later (below_drewN (bi _ _) j)) ((ff.mono (λ_ h=> .inl h)).trans (aa.ah (λ_=>False) (below_drewN (bi w1.heap.size w1) j)) (λ_ h=>h.elim):aa (λk=>F k\/k=l) w (w1.drewN j)))) _⟩
  .rw [aB C];have K:((L.tail:Int) == (L.head:Int))=false:=(by rw [fJ];omega);generalize P:cZ Z.2 s L.f ((L.ep:Int)*4294967296+(L.head:Int))=Y at*;by_cases k:Y.1=0
   .rw [aB (λh=>h k)];have d:(Y.1 == 0)=true:=(by rw [beq_iff_eq];exact k);go_in;go_wp2_with fail;refine pj i λw1 iN cq ff=>?_;obtain⟨z,g,q,r,t,u⟩:=jE cq.c6 cq.c7 cq.c0 cq.c1 cq.c2 cq.c5;go_wp2_with fail;go_quiet (fail);go_wp2_with fail;go_region_held3 (λw'=>w'.cell? (aD l 0)=some (pQ p)/\w'.cell? (aD l 1)=some (iV (L.f:Int))/\w'.cell? (aD l 2)=some (iV (L.n:Int))/\w'.cell? (aD l 5)=some (iV (L.ep:Int))/\w'.cell? (aD l 7)=some (iV (L.head:Int)))
     (first|exact⟨q,r,t,u,g⟩|exact⟨je.c0,je.c1,je.c2,je.c5,je.c7⟩)
       ((go_at_call 99;refine(y _ (iN.later (below_drewN (bi _ _) (nq+1)))).mono ?_;rintro e b ⟨rfl,cI,aY⟩;have aZ:=ff.trans (aa.ah (λ_=>False) (below_drewN (bi w1.heap.size w1) (nq+1))) (λ_ h=>h.elim);have ip:=cq.later (below_drewN (bi w1.heap.size w1) (nq+1));have je:=ip.aw aY m))
    generalize w1.drewN (nq+1)=o at*;obtain⟨ly,eu,O,H,I⟩:=eK aZ.size aY.size (je.fz 6) je.c6 je.c7;have dM:∀k,more F o b k->¬k=l:=λk a e=>by
     subst e;rcases a with a|a
     .exact m a
     .omega
    have eE:(b.setCell ⟨l,6,none⟩ (.int .i64 (L.head:Int))).heap.size=b.heap.size:=(by simp [World.setCell]);have E:=(aH (((cI.aw (aL (F:=λk=>k=l) b rfl 6 (iV (L.head:Int))) dM).mono (G:=more F w (b.setCell ⟨l,6,none⟩ (.int .i64 (L.head:Int)))) (λk a=>by
      rcases a with a|a
      .exact .inl a
      .exact .inr ⟨by omega,by rw [eE];exact a.2⟩) (cJ (F:=F) (w:=w) iK (by rw [eE];omega)))) (aH je.trimmed (((aZ.mono (λ_ h=> .inl h):aa (λk=>F k\/k=l) w o).trans aY (λ_ h=> .inl (.inl h))).trans (aL (F:=λk=>k=l) b rfl 6 (iV (L.head:Int))) (λ_ h=> .inl (.inr h)))))
    go_wp2;go_ret;exact⟨rfl,E⟩
   .rw [aG k];have d:(Y.1 == 0)=false:=(by rw [fJ];exact k);go_in;go_wp2_with fail;refine pj i λw1 iN cq ff=>?_;obtain⟨z,g,q,r,t,u⟩:=jE cq.c6 cq.c7 cq.c0 cq.c1 cq.c2 cq.c5;go_wp2_with fail;go_quiet (fail);go_wp2_with fail;go_region_held3 (λw'=>w'.cell? (aD l 0)=some (pQ p)/\w'.cell? (aD l 1)=some (iV (L.f:Int))/\w'.cell? (aD l 2)=some (iV (L.n:Int))/\w'.cell? (aD l 5)=some (iV (L.ep:Int))/\w'.cell? (aD l 7)=some (iV (L.head:Int)))
     (first|exact⟨q,r,t,u,g⟩|exact⟨je.c0,je.c1,je.c2,je.c5,je.c7⟩)
       ((go_at_call 99;refine(y _ (iN.later (below_drewN (bi _ _) (nq+1)))).mono ?_;rintro e b ⟨rfl,cI,aY⟩;have aZ:=ff.trans (aa.ah (λ_=>False) (below_drewN (bi w1.heap.size w1) (nq+1))) (λ_ h=>h.elim);have ip:=cq.later (below_drewN (bi w1.heap.size w1) (nq+1));have je:=ip.aw aY m))
    generalize w1.drewN (nq+1)=o at*;go_wp2;go_ret;exact⟨rfl,(aH (cI.from iK aZ.size aY.size) (aH je ((aZ.mono (λ_ h=> .inl h):aa (λk=>F k\/k=l) w o).trans aY (λ_ h=> .inl (.inl h)))))⟩
 .rw [aG c];have J:(Z.1 == 0)=false:=by rw [fJ];exact c
  go_in;go_wp2_with fail;refine pj i λw1 iN cq ff=>?_;go_wp2;go_ret;exact⟨rfl,aH ((iN.more (w:=w)).le (by omega:cR<=cR+2)) (aH cq (ff.mono (λ_ h=> .inl h):aa (λk=>F k\/k=l) w w1))⟩
end
end B
end
section
def kr {S:DS} (b:S.fL) (s h:Nat):∀{ms:CM},(∀q∈ms,Bytes q.2)->(aE S s h ms).2.fL:=λ{ms} c=>by
 induction ms generalizing S with
 |nil=>exact b
 |cons q f e=>
  rw [jz];have a:(S.wr s ((h+q.1:Nat):Int) 512 q.2).2.fL:=b.wr s _ _ (c q List.mem_cons_self);split
  .exact a
  .exact e a (λx d=>c x (List.mem_cons_of_mem _ d))
def Ei {s:Nat} (h:L.Ok s) (S:DS):(L.trim S s).2.2.Ok s/\(L.trim S s).2.2.begun=L.begun:=by
 unfold LG.trim;split
 .exact⟨h,rfl⟩
 .split
  .exact⟨h,rfl⟩
  .split
   .exact⟨h,rfl⟩
   .exact⟨⟨h.s,h.n1,h.n2,h.ep,h.top,bS _,Nat.le_add_right _ _,h.hi,h.hb⟩,rfl⟩
section
variable {w w':World} {F:Nat->Prop} {p s cR q l m t n:Nat} {S:DS} {G:SG} {T:TG}
def it.GH {S':DS} {a:LG} {Pt:CM} (h:it w F p s cR q l m S G) (hd:B.ax w' (more F w w') p s S' c') (bw:ng w' q p l m G.y G.busy) (b:cW w' l p a) (nh:Ch w' m Pt) (A2:a.Ok s) (vA:a.begun=true) (pb:∀x∈Pt,x.1<G.y.blocks):it w' (more F w w') p s c' q l m S' {G with L:=a,ov:=Pt}:=by
 obtain⟨c,d,f⟩:=kE h.st.lt h.lp.lt h.ch.lt;exact⟨hd,bw,b,nh,λe=>e.elim h.nq (λe=>by omega),λe=>e.elim h.nl (λe=>by omega),λe=>e.elim h.nm (λe=>by omega),h.ql,h.qm,h.lm,A2,vA,h.hs,pb⟩
def CR (h:it w F p s cR q l m S G) (dD:S.fL) (aU:S.puts.length+4000<=4000000000000):
  Calls prog 74 #[pQ q] w λe w'=>e= .returned (iV (G.check S s).1)/\it w' (more F w w') p s (cR+2) q l m (G.check S s).2.1 (G.check S s).2.2/\aa (λk=>F k\/k=l\/k=m) w w':=by
 obtain⟨I,N,t,lz,M⟩:=eK (B.zK h.d h.lp h.nl (by omega)) (nG G.L S s) (pU dD G.L s) h.ch.small (eF (G.L.sync S s).2 s G.y.home G.ov);have r:=kr t s G.y.home (λx g=>(h.ch.len x g).2.2);have ZY:=Ei h.lk (aE (G.L.sync S s).2 s G.y.home G.ov).2;have XU:=h.hs;have J:=λ(w1:World) (iN:B.ax w1 F p s (G.L.sync S s).2 cR) (eh:ng w1 q p l m G.y G.busy) (Jk:Ch w1 m G.ov)=>rQ iN eh Jk h.nq h.nm (λx g=>by have:=h.kb x g;omega) (by omega);have K:=λ(w1:World) (z:Nat->Prop) (iN:B.ax w1 z p s (aE (G.L.sync S s).2 s G.y.home G.ov).2 cR) (cq:cW w1 l p G.L) (jk:¬z l)=>B.R0 iN cq h.lk jk r (by omega);have U:=h.st.c1;have H:=h;obtain⟨R,b⟩:=bQ (G.check S s);rw [<-b];unfold SG.check at b;generalize G.L.sync S s=Z at*;generalize aE Z.2 s G.y.home G.ov=Y at*;generalize G.L.trim Y.2 s=X at*;obtain⟨iK,A7,Kp,xQ,Q,P,Wd⟩:=nw h.d.lt h.ql h.qm h.lm h.st.lt h.lp.lt h.ch.lt;go_in;go_wp2_with fail;refine pj I λw1 iN cq ff=>?_;by_cases i:Z.1=0
 .have C:(Z.1 != 0)=false:=by rw [i];rfl
  rw [aB (λh=>h i)] at b;have dC:=ff.size;have eh:=H.st.aw ff H.nq;have Jk:=H.ch.aw ff H.nm;have O:=J w1 iN eh Jk;have oV:=(aH eh (aH Jk (aH cq ff)));go_wp2_with fail;refine fR O λc cI aY=>?_;obtain⟨eu,bo,B9,fH,pg⟩:=eK aY.size (oV.1.aw aY H.nq) (oV.2.1.aw aY H.nm) (oV.2.2.1.aw aY H.nl) (oV.2.2.2.trans aY (λ_ h=> .inl h));by_cases j:Y.1=0
  .have D:(Y.1 != 0)=false:=(by rw [j];rfl);rw [aB (λh=>h j)] at b;have ml:¬more F w1 c l:=λe=>e.elim H.nl (λe=>by omega);have hnq:¬more F w1 c q:=λe=>e.elim H.nq (λe=>by omega);have xv:¬more F w1 c m:=λe=>e.elim H.nm (λe=>by omega);have T:=K c (more F w1 c) cI fH ml;have A:=bo.c1;have xy:=(aH bo (aH B9 pg));go_wp2_with fail;refine pj T λo u ip aZ=>?_;have ly:=aZ.size;have fK:=xy.1.aw aZ (λe=>e.elim hnq A7);have Cf:=xy.2.1.aw aZ (λe=>e.elim xv (λe=>xQ e.symm));have qi:=u.mono (λk a=>by
    rcases a with (a|a)|a
    .exact .inl a
    .exact .inr ⟨by omega,by omega⟩
    .exact .inr ⟨by omega,a.2⟩) (cJ (F:=F) (w:=w) iK (by omega))
   have adD:aa (λk=>F k\/k=l\/k=m) w o:=(xy.2.2.mono (λ_ h=> .inl h)).trans aZ (λk a=>by
    rcases a with (a|a)|a
    .exact .inl (.inl a)
    .exact .inr (by omega)
    .exact .inl (.inr (.inl a)))
   by_cases n:X.1=0
   .have E:(X.1 != 0)=false:=(by rw [n];rfl);rw [aB (λh=>h n)] at b;obtain⟨v,yw,nh,Bb,eE⟩:=Cf.qK;have W:=fK.c7;have f:(it v (more F w v) p s (cR+2) q l m X.2.1 {G with L:=X.2.2,ov:= []}/\aa (λk=>F k\/k=l\/k=m) w v):=by
     refine⟨H.GH ((qi.aw Bb (λk a e=>by
      subst e;exact a.elim H.nm (λh=>by omega))).mono (λk a=>a.elim .inl (λh=> .inr ⟨h.1,by omega⟩)) (cJ (F:=F) (w:=w) iK (by omega))) (fK.aw Bb Kp) (ip.aw Bb xQ) nh ZY.1 (ZY.2.trans H.bg) (λx g=>by cases g),adD.trans Bb (λ_ e=> .inl (.inr (.inr e)))⟩
    go_wp2;go_ret;rw [b];exact⟨rfl,f⟩
   .have E:(X.1 != 0)=true:=(by rw [gA];exact n);rw [aG n] at b;have f:(it o (more F w o) p s (cR+2) q l m X.2.1 {G with L:=X.2.2}/\aa (λk=>F k\/k=l\/k=m) w o):=⟨H.GH qi fK ip Cf ZY.1 (ZY.2.trans H.bg) H.kb,adD⟩;go_wp2;go_ret;rw [b];exact⟨rfl,f⟩
  .have D:(Y.1 != 0)=true:=(by rw [gA];exact j);rw [aG j] at b;have f:(it c (more F w c) p s (cR+2) q l m Y.2 G/\aa (λk=>F k\/k=l\/k=m) w c):=⟨H.GH ((cI.from iK dC eu).le (by omega)) bo fH B9 H.lk H.bg H.kb,pg.mono (λ_ h=> .inl h)⟩;go_wp2;go_ret;rw [b];exact⟨rfl,f⟩
 .have C:(Z.1 != 0)=true:=by rw [gA];exact i
  rw [aG i] at b;have f:(it w1 (more F w w1) p s (cR+2) q l m Z.2 G/\aa (λk=>F k\/k=l\/k=m) w w1):=⟨H.GH (iN.more.le (by omega)) (H.st.aw ff H.nq) cq (H.ch.aw ff H.nm) H.lk H.bg H.kb,ff.mono (λ_ h=> .inl h)⟩;go_wp2;go_ret;rw [b];exact⟨rfl,f⟩
end
end
section
namespace B
def bX (w:World) (F:Nat->Prop) (p s:Nat) (S:DS) (m c:Nat):Prop:=∃r,gS w F p s (S.DX r) m/\Rb r c
section
variable {w w':World} {F G:Nat->Prop} {p s m c:Nat} {S:DS}
def bX.old (h:bX w F p s S m c):Go.Proofs.YtcpdggdfihjhoabGreat.bX w F p s S m:=by obtain⟨r,h,_⟩:=h;exact⟨r,h⟩
def bX.le {d:Nat} (h:bX w F p s S m c) (hd:c<=d):bX w F p s S m d:=by obtain⟨r,h,a⟩:=h;exact⟨r,h,a.le hd⟩
def bX.r (h:bX w F p s S m c):ax w F p s S c:=by obtain⟨r,h,a⟩:=h;exact⟨r,h.at,a⟩
def ax.ZZ (h:ax w F p s S c):∃m,bX w F p s S m c:=by
 obtain⟨r,h,a⟩:=h;obtain⟨m,h⟩:=h.m;exact⟨m,r,h,a⟩
def bX.aw (h:bX w F p s S m c) (k:aa G w w') (hd:∀k,F k->¬G k):bX w' F p s S m c:=by obtain⟨r,h,a⟩:=h;exact⟨r,h.aw k hd,a⟩
def bX.later (h:bX w F p s S m c) (a:bW w w'):bX w' F p s S m c:=h.aw (aa.ah (λ_=>False) a) (λ_ _ h=>h)
def bX.mono (h:bX w F p s S m c) (a:∀k,F k->G k) (b:∀k,G k->k<w.heap.size):bX w G p s S m c:=by obtain⟨r,h,d⟩:=h;exact⟨r,h.mono a b,d⟩
def adE (h:bX w F p s S m c) (k:Nat) (n:k<s) (aU:S.puts.length+1<=4000000000000) (l:S.fuse≠0):
  Calls prog 68 #[pQ p,iV (k:Int)] w λe w'=>∃g a,e= .returned (.tuple #[.slice (some (aD g 0)) 512 a,iV 0])/\w.heap.size<=g/\ay w' 5 g a (bs (S.now k))/\bX w' F p s S m (c+1)/\aa F w w':=by
 obtain⟨r,h,o⟩:=h;refine(Fy h k l n (by show S.puts.length<=_;omega)).mono ?_;rintro e w' ⟨g,a,b,d,f,i,j⟩;exact⟨g,a,b,d,f,⟨_,i,o.read⟩,j⟩
def Z0 (h:bX w F p s S m c) (k:Nat) (b:k<s) (aU:S.puts.length+1<=4000000000000) (a:S.fuse≠0) (x:Addr) (d:Nat) (l:List Int) (n:Src w (some x) 512 l):
  Calls prog 40 #[pQ p,iV (k:Int), .slice (some x) 512 d] w λe w'=>e= .returned (iV 0)/\bX w' (more F w w') p s (S.wr s (k:Int) 512 l).2 m c/\aa F w w':=by
 obtain⟨r,h,j⟩:=h;refine(Cb h k b a (by show S.puts.length+1<=_;omega) x d l n).mono ?_;rintro e w' ⟨f,g,i⟩;refine⟨f,⟨r,?_,j⟩,i⟩;rw [oW a b];exact g
end
def We {w:World} {F:Nat->Prop} {p s m:Nat} {S:DS} (h:bX w F p s S m cR) (f n E P i c:Nat) (a:Option Addr) (x k:Nat) (l:List Int) (U:Src w a x l) (Uw:∀y,a=some y->0<x->¬F y.block) (hb:Bytes l) (hx:x<=492) (tB:a=none->k=0) (hn:1<=n) (hfn:f+2+n<=s) (aU:S.puts.length+2<=4000000000000):
  Calls prog 212 #[kG p f n,lf E P i c a x k] w λe w'=>e= .returned (iV (jX S s f n E P i c l).1)/\bX w' (more F w w') p s (jX S s f n E P i c l).2 m (cR+1)/\aa F w w':=by
 obtain⟨Ml,du,iK⟩:=kE h.r.ok.hi h.r.ok h.r.lt;have u:¬F w.heap.size:=λb=>by have:=h.r.lt _ b;omega
 have Dw:¬F (w.heap.size+1):=λb=>by have:=h.r.lt _ b;omega
 have L:=(aH u Dw);have aoY:P%n<n:=Nat.mod_lt _ hn;have C:=gX w (.cells #[.pointer (some ⟨p,0,none⟩), .int .i64 f, .int .i64 n] 141) (.cells (eO E P i c a x k) 229);have Pv:((w.alloc (.cells #[.pointer (some ⟨p,0,none⟩), .int .i64 f, .int .i64 n] 141)).alloc (.cells (eO E P i c a x k) 229)).heap[w.heap.size]? =some (.cells #[.pointer (some ⟨p,0,none⟩), .int .i64 f, .int .i64 n] 141 (0,0)):=(Below.heap_alloc _ _ _ (by simp)).trans (heap_alloc_new _ _);have Pw:((w.alloc (.cells #[.pointer (some ⟨p,0,none⟩), .int .i64 f, .int .i64 n] 141)).alloc (.cells (eO E P i c a x k) 229)).heap[w.heap.size+1]? =some (.cells (eO E P i c a x k) 229 (0,0)):=by
  have:=heap_alloc_new (w.alloc (.cells #[.pointer (some ⟨p,0,none⟩), .int .i64 f, .int .i64 n] 141)) (.cells (eO E P i c a x k) 229);rwa [World.size_alloc] at this
 have b:=λwx=>LW p f n P wx (by omega) (by omega) (by omega) (by omega) (by omega);obtain⟨j,o,I,D,M,H⟩:=jE C Pv Pw (h.later C) (U.later C) Uw;clear h C Pv Pw U u Dw Uw;unfold jX;go_in;by_cases q:S.fuse=0
 .rw [aG q];go_wp2_with fail;refine(b _).mono ?_;rintro e w1 ⟨rfl,ar⟩;have Pv:=(ar.block _ (by simp;omega)).trans o;have N:=aM Pv;have t:=oz (D.later ar).r ((f:Int)+2+(P:Int)%(n:Int)) q;have A:=(aH ((((D.later ar).mono (G:=more F w w1) (λ_ h=> .inl h) (cJ iK (j.trans (ar.mono j.size)).size))).le (by omega:cR<=cR+1)) (aa.ah F (j.trans (ar.mono j.size))));clear b ar Pv;go_wp2_with fail;refine t.mono ?_;rintro e d ⟨rfl,rfl⟩;clear t;go_wp2;go_ret;exact⟨rfl,A⟩
 .rw [aB q];have ml:=bu du (f+2+P%n) (by omega);have hlx:=M.1;have mc:=sw (old:=S.now (f+2+P%n)) (body:=kO E P i c l) ml (by rw [vj];omega);obtain⟨Y,K⟩:=bQ (gv (S.now (f+2+P%n)) (kO E P i c l));rw [<-K] at mc⊢;have X:=K;clear K;have O:(f:Int)+2+(P:Int)%(n:Int)=((f+2+P%n:Nat):Int):=by omega
  rw [O] at b;clear O;go_wp2_with fail;refine(b _).mono ?_;rintro e w1 ⟨rfl,ar⟩;have Pv:=(ar.block _ (by simp;omega)).trans o;have Pw:=(ar.block _ (by simp)).trans I;have N:=aM Pv;obtain⟨t,cQ,oV,aiE,aiF⟩:=eK (adE (D.later ar) (f+2+P%n) (by omega) (by omega) q) ((j.trans (ar.mono j.size))) ((M.later ar)) Pv Pw;clear b ar Pv Pw;go_wp2_with fail;refine t.mono ?_;rintro e d ⟨g,cg,rfl,hg,T,cI,aY⟩;have Pv:=eD aiE aY L.1;have Pw:=eD aiF aY L.2;have q0:d.cell? ⟨w.heap.size+1,0,none⟩=some (iV (E:Int)):=aM Pw;have q1:d.cell? ⟨w.heap.size+1,1,none⟩=some (iV (P:Int)):=bG Pw;have q2:d.cell? ⟨w.heap.size+1,2,none⟩=some (iV (i:Int)):=bK Pw;have q3:d.cell? ⟨w.heap.size+1,3,none⟩=some (iV (c:Int)):=fQ Pw;have q4:d.cell? ⟨w.heap.size+1,4,none⟩=some (.slice a x k):=gG Pw;have Q:=QX E P i c a x k l d (oV.oX aY H) hx tB;have pB:=T.src;rw [ml] at pB;obtain⟨W,sq,ig,adF⟩:=cO pB cI (((aa.ah F cQ).trans aY (λ_ h=> .inl h))) Pv;clear t T pB cI aY Pv Pw;go_wp2_with fail;refine Q.mono ?_;rintro e w3 ⟨v,rfl,BA,bF⟩;obtain⟨Z,c3,rfl,fK,_,_⟩:=BA.src;have J:=QI (some (aD g 0)) 512 cg (S.now (f+2+P%n)) Z _ c3 (kO E P i c l) w3 (W.later bF) fK (my hb);rw [<-X,mc.1] at J;have Vt:=(sq.later bF);have lO:=(ig.trans (aa.ah (λ_=>False) bF) (λ_ h=>h.elim));have adG:=((bF.block _ (aq adF)).trans adF);clear Q BA bF fK;go_wp2_with fail;refine J.mono ?_;rintro e w4 ⟨v4,rfl,⟨a4,c4,rfl,Ej,_,_⟩,fw⟩;have N:=aM ((fw.block _ (aq adG)).trans adG);rw [mc.2] at Ej⊢;obtain⟨b5,o5,rfl⟩:=cX Ej (by omega);have R:=Z0 (Vt.later fw) (f+2+P%n) (by omega) (by omega) q (aD b5 o5) c4 Y.1 Ej;have Mb:=(lO.trans (aa.ah (λ_=>False) fw) (λ_ h=>h.elim));clear J fw Ej;go_wp2_with fail;refine fR R λw5 jG dX=>?_;have wk:=Mb.size;have pL:=dX.size;have A:=(aH ((jG.mono (G:=more F w w5) (λk z=>by
    rcases z with z|z
    .exact .inl z
    .exact .inr ⟨by omega,z.2⟩) (cJ iK (by omega)))) (Mb.trans dX (λ_ h=> .inl h)))
  clear R jG dX;go_wp2;go_ret;rw [(oW q (show f+2+P%n<s by omega) Y.1)] at A⊢;exact⟨rfl,A⟩
end B
end
section
namespace B
def bX.narrow {w:World} {F G:Nat->Prop} {p s:Nat} {S:DS} {m a:Nat} (h:bX w F p s S m a) (b:∀k,F k->(IsC w k\/k=m)->G k) (c:∀k,G k->k<w.heap.size):bX w G p s S m a:=by
 obtain⟨r,h,d⟩:=h;exact⟨r,h.narrow b c,d⟩
def bX.fm {w:World} {F:Nat->Prop} {p s:Nat} {S:DS} {m a:Nat} (h:bX w F p s S m a):F m:=h.old.fm
def bX.fc {w0 w w':World} {F:Nat->Prop} {B p s:Nat} {S:DS} {m b:Nat} (h:bX w' (more (FC F B m w) w w') p s S m b) (e:B<=w.heap.size) (c:w0=w0):bX w' (FC F B m w') p s S m b:=
 h.narrow (λk a d=>⟨by
  rcases a with a|a
  .exact a.1
  .exact .inr (by omega),d,h.r.lt k a⟩) (λ_ a=>a.2.2)
structure Ek (w W:World) (F:Nat->Prop) (l p s m M n0:Nat) (L:LG) (S:DS) (d:List Int) (xs:List Nat) (cR:Nat):Prop where
 ok:(rE L S s d xs).1=0
 dk:bX W (FC F n0 m W) p s (rE L S s d xs).2 m (cR+xs.length)
 mrk:W.heap[M]? =some (.cells #[.int .i64 (L.ep:Int), .int .i64 ((L.head+xs.length:Nat):Int), .int .i64 ((xs.length:Nat):Int), .int .i64 ((dh d.length:Nat):Int)] 227 (0,0))
 bx:ij W w.heap.size l
 kp:aa F w W
 sz:n0<=W.heap.size
structure GI (w W:World) (F:Nat->Prop) (p s m n0:Nat) (L:LG) (S:DS) (d:List Int) (xs:List Nat) (cR:Nat):Prop where
 no:(rE L S s d xs).1≠0
 dk:bX W (FC F n0 m W) p s (rE L S s d xs).2 m (cR+xs.length)
 er:W.heap[w.heap.size+1]? =some (.cells #[.int .i64 (rE L S s d xs).1] 46 (0,0))
 kp:aa F w W
 sz:n0<=W.heap.size
def bX.carry {W W':World} {F:Nat->Prop} {p s m f c:Nat} {S:DS} (h:bX W (FC F f m W) p s S m c) (e:kz W W') (g:W'.heap[m]? =W.heap[m]?) (j:W.heap.size<=W'.heap.size):bX W' (FC F f m W') p s S m c:=by
 obtain⟨r,h,i⟩:=h;refine⟨r,(h.agree j (λk a=>?_)).mono (λk a=>⟨a.1,?_,by have:=a.2.2;omega⟩) (λ_ a=>a.2.2),i⟩
 .rcases a.2.1 with ⟨cur,t,d,b⟩|rfl
  .rw [e _ _ _ _ b,b]
  .exact g
 .rcases a.2.1 with ⟨cur,t,d,b⟩|h
  .exact .inl ⟨cur,t,d,e _ _ _ _ b⟩
  .exact .inr h
section
variable {w W W':World} {F:Nat->Prop} {l p s m M n0 cR:Nat} {L:LG} {S:DS} {d:List Int} {xs:List Nat}
def Ek.step (h:Ek w W F l p s m M n0 L S d xs cR) (a:kz W W') (e:W'.heap[m]? =W.heap[m]?) (b:W.heap.size<=W'.heap.size) (c:aa F w W'):Ek w W' F l p s m M n0 L S d xs cR:=
   ⟨h.ok,h.dk.carry a e b,a _ _ _ _ h.mrk,⟨a _ _ _ _ h.bx.1,a _ _ _ _ h.bx.2⟩,c,j3 h.sz b⟩
def GI.step (h:GI w W F p s m n0 L S d xs cR) (a:kz W W') (e:W'.heap[m]? =W.heap[m]?) (b:W.heap.size<=W'.heap.size) (c:aa F w W'):GI w W' F p s m n0 L S d xs cR:=
   ⟨h.no,h.dk.carry a e b,a _ _ _ _ h.er,c,j3 h.sz b⟩
def E7 (h:bX W (FC F n0 m W) p s S m cR):m<W.heap.size:=h.fm.2.2
def Ek.grown {row:Option Nat} (h:Ek w W F l p s m M n0 L S d xs cR) (c:m<n0) (f:w.heap.size<=n0) (a:W.grownBy W' row) (b:∀r,row=some r->n0<=r/\∃o:Obj,W.heap[r]? =some o/\o.isCells=false):Ek w W' F l p s m M n0 L S d xs cR:=
 h.step (jf a (λr e=>(b r e).2)) (a.block m (E7 h.dk) (λe=>by have:=(b m e.symm).1;omega)) a.size (h.kp.grown a (λr e=>by have:=(b r e).1;omega))
def GI.grown {row:Option Nat} (h:GI w W F p s m n0 L S d xs cR) (c:m<n0) (f:w.heap.size<=n0) (a:W.grownBy W' row) (b:∀r,row=some r->n0<=r/\∃o:Obj,W.heap[r]? =some o/\o.isCells=false):GI w W' F p s m n0 L S d xs cR:=
 h.step (jf a (λr e=>(b r e).2)) (a.block m (E7 h.dk) (λe=>by have:=(b m e.symm).1;omega)) a.size (h.kp.grown a (λr e=>by have:=(b r e).1;omega))
end
def bX.E8 {W W':World} {F:Nat->Prop} {p s m c b d:Nat} {S:DS} (h:bX W (FC F c m W) p s S m d) (a:aa (λk=>k=b) W W') (f:¬FC F c m W b):bX W' (FC F c m W') p s S m d:=
   (h.aw a (λk a e=>f (e▸a))).mono (λk Bj=>⟨Bj.1,by
  rcases Bj.2.1 with ⟨cur,t,g,i⟩|h
  .exact .inl ⟨cur,t,g,(a.block k Bj.2.2 (λe=>f (e▸Bj))).trans i⟩
  .exact .inr h,by have:=Bj.2.2;have:=a.size;omega⟩) (λ_ a=>a.2.2)
def Mx {w W:World} {F:Nat->Prop} {p s m b M l D c:Nat} {S:DS} {L:LG} {e:Int} (n:∀j,F j->j<w.heap.size) (hd:bX W (FC F b m W) p s S m c) (u:cW W l p L) (a:aa (λk=>F k\/k=l) w W) (f:W.heap[w.heap.size+1]? =some (.cells #[.int .i64 e] 46 (0,0))) (g:W.heap[D]? =some (.deferred (some [])))
    (i:b<=D) (v:l<w.heap.size) (z:w.heap.size+2<=M) (o:M<b) (Wd:m<w.heap.size):
    (W.putObj D (.deferred none)).cell? ⟨w.heap.size+1,0,none⟩=some (iV e)/\ax (W.putObj D (.deferred none)) (more F w (W.putObj D (.deferred none))) p s S c/\cW (W.putObj D (.deferred none)) l p L/\aa (λk=>F k\/k=l) w (W.putObj D (.deferred none)):=by
 have eE:(W.putObj D (.deferred none)).heap.size=W.heap.size:=by simp [World.putObj]
 have mT:aa (λk=>k=D) W (W.putObj D (.deferred none)):=⟨rfl,rfl,rfl,by omega,λk _ x=>World.putObj_heap_other x⟩;have q:=a.size;refine⟨aM ((mT.block _ (aq f) (by omega)).trans f),?_,u.aw mT (by omega),a.trans mT (λ_ h=> .inr (by omega))⟩;refine(hd.r.aw mT (λk a e=>?_)).mono (λk a=>?_) (λk a=>?_)
 .rcases a.2.1 with ⟨cur,t,y,d⟩|h
  .rw [e,g] at d;cases d
  .omega
 .rcases a.1 with h|h
  .exact .inl h
  .exact .inr ⟨by omega,by have:=a.2.2;omega⟩
 .rcases a with h|h
  .have:=n k h;omega
  .exact h.2
end B
end
section
namespace B
open Go.RowKit Go.Shelf
attribute [local go_sem] Oper.semAt_some
section
variable {w:World} {F:Nat->Prop} {p s l cR:Nat} {S:DS} {L:LG}
set_option maxRecDepth 100000 in
def N8 (h:ax w F p s S cR) (hl:cW w l p L) (A:L.Ok s) (hF:¬F l) (b o x k:Nat) (d:List Int) (hs:Src w (some (aD b o)) x d) (Dw:¬F b) (hd:Bytes d) (hxk:x<=k) (hr:L.fW S x=0) (aU:S.puts.length+100<=4000000000000):
  Calls prog 171 #[pQ l, .slice (some (aD b o)) x k] w λe w'=>e= .returned (iV (L.append S s d).1)/\ax w' (more F w w') p s (L.append S s d).2.1 (cR+17)/\cW w' l p (L.append S s d).2.2/\aa (λk=>F k\/k=l) w w':=by
 obtain⟨k0,k1,k2,k3,k4⟩:=jJ hr;obtain⟨W0,J2⟩:=zEr ((w.alloc (.cells #[.pointer (some ⟨l,0,none⟩)] 78)).alloc (.cells #[.int .i64 0] 46));have fO:bW w W0:=by rw [<-J2];exact gX _ _ _
 have Xz:ij W0 w.heap.size l:=by
  rw [<-J2];refine⟨(Below.heap_alloc _ _ _ (by simp)).trans (heap_alloc_new _ _),?_⟩;have:=heap_alloc_new (w.alloc (.cells #[.pointer (some ⟨l,0,none⟩)] 78)) (.cells #[.int .i64 0] 46);rwa [World.size_alloc] at this
 have M:=jw (h.later fO) (hl.later fO);rw [k0] at M;obtain⟨eE,HW,HQ,HB,HL,hhi,HO⟩:=nw hl.lt (yh J2) (yh Xz) (yh fO) (yh (hl.later fO)) A.hi (yh A);have iN:((x:Int) == 0)=false:=by rw [fJ];omega
 have cI:¬(8364:Int)<(x:Int):=by omega
 obtain⟨C,hC⟩:=bQ ((x+491) / 492);have X1:dh x=C:=by rw [hC];rfl
 rw [X1] at k3 k4;have Qb:C<=17:=by omega
 have hd3:¬(1073741824:Int)<(L.head:Int)+(C:Int):=by omega
 obtain⟨HC,HD,E,HR,iK⟩:=UV hC h hl hr h.lt;clear hC fO Xz J2 A hl h hr k0;refine(callsIn_wide (n:=6)).1 ?_;refine callsIn_of_wp_marks func171 rfl trivial ?_ rfl;simp only [ntmps171,List.size_toArray,List.length_cons,List.length_nil,Nat.reduceAdd,Nat.reduceSub,Array.replicate_succ,Array.replicate_zero,List.push_toArray,List.append_toArray,List.nil_append,List.cons_append];refine(wpIn_wide (n:=6)).2 ?_;go_wp2_with fail;rw [HW.o];refine M.mono ?_;rintro e w1 ⟨rfl,ar⟩;have iM:=ij.later HQ.o ar;have b0:w1.cell? (aD w.heap.size 0)=some (pQ l):=aM iM.1;have cq:=HL.o.later ar;have bN:=HB.o.trans (ar.mono HB.o.size);have c7:=cq.c7;have h3:=zg cq HO.o;have r:=λwx=>jd x wx (by omega);obtain⟨cQ,HQ1,Bz⟩:=kF bN iM cq;clear M ar bN iM cq;go_wp2_with fail;refine(r _).mono ?_;rintro e g ⟨rfl,dE⟩;have eG:=dE.symm;subst eG;rw [<-HC.o];clear r dE;go_wp2_with fail;refine h3.mono ?_;rintro e g ⟨rfl,bd⟩;have qL:=ij.later HQ1.o bd;have eR:=cQ.o.trans (bd.mono cQ.o.size);have fH:=Bz.o.later bd;have b2:g.cell? (aD w.heap.size 0)=some (pQ l):=aM qL.1;have e5:=fH.c5;have e7:=fH.c7;clear h3 bd;go_wp2_with fail;go_region_held3 (λw'=>w'.cell? (aD w.heap.size 0)=some (pQ l)/\w'.cell? (aD l 5)=some (iV (L.ep:Int))/\w'.cell? (aD l 7)=some (iV (L.head:Int))) (go_keep) (fail);have jC:w.heap.size+2<=g.heap.size:=by have:=aq qL.2;omega
 clear c7 e5 e7 b2 b0;obtain⟨I,iG⟩:∃I,(g.alloc (.cells #[.int .i64 (L.ep:Int), .int .i64 (L.head:Int), .int .i64 0, .int .i64 (C:Int)] 227)).drew=I:=⟨_,rfl⟩;rw [iG];have ly:I.heap.size=g.heap.size+1:=by rw [<-iG];show (g.alloc _).heap.size=_;simp
 have jT:bW w I:=by rw [<-iG];exact ai (eR.alloc eR.size _)
 have Cf:I.heap[g.heap.size]? =some (.cells #[.int .i64 (L.ep:Int), .int .i64 (L.head:Int), .int .i64 0, .int .i64 (C:Int)] 227 (0,0)):=by rw [<-iG];exact heap_alloc_new _ _
 have N9:ij I w.heap.size l:=qL.later (by rw [<-iG];exact ai (aJ _ _));obtain⟨H,gd,HM3,HQ3⟩:=Bh ly jT Cf N9;clear iG jT Cf N9 ly qL eR fH;go_wp2_with fail;refine(NG (some (aD b o)) x k I).mono ?_;rintro e q ⟨rfl,pk⟩;go_wp2_with fail;refine(wpIn_wide (n:=6)).1 ?_;have fw:bW I q:=by rw [pk];exact gX _ _ _
 have wk:q.heap.size=g.heap.size+3:=by rw [pk];have:=H.o;simp;omega
 have Ej:q.heap[g.heap.size+1]? =some (.cells #[.slice (some ⟨b,o,none⟩) x k] 22 (0,0)):=by
  rw [pk,<-H.o];exact(Below.heap_alloc _ _ _ (by simp)).trans (heap_alloc_new _ _)
 have Wf:q.heap[g.heap.size+1+1]? =some (.cells #[.int .i64 492] 3 (0,0)):=by
  rw [pk,<-H.o];have:=heap_alloc_new (I.alloc (.cells #[.slice (some ⟨b,o,none⟩) x k] 22)) (.cells #[.int .i64 492] 3);rwa [World.size_alloc] at this
 rw [H.o];rw [<-pk];clear pk;have rB:=gd.o.trans (fw.mono gd.o.size);have UB:=hs.1;have Q:dh d.length=C:=by rw [UB];exact X1
 obtain⟨m,hDm⟩:=HD.o.ZZ;have Wd:=HD.o.lt m hDm.fm;have Z1:=rB.size;have hI0:Ek w q F l p s m g.heap.size q.heap.size L S d [] cR:=by
  refine⟨rfl,?_,?_,HQ3.o.later fw,aa.ah F rB,bS _⟩
  .exact(hDm.later rB).narrow (λk A hc=>⟨.inl A,hc,by have:=HD.o.lt k A;omega⟩) (λ_ A=>A.2.2)
  .rw [Q];exact(fw.block _ (aq HM3.o)).trans HM3.o
 refine wpIn_rangeFunc_ownH rfl (by omega) (gf:=225) (lb:= #[.pointer (some ⟨g.heap.size+1,0,none⟩), .pointer (some ⟨g.heap.size+1+1,0,none⟩)]) rfl trivial (enters_of func225 (by kernel_rfl) rfl)
    (Gp (6-1) (by omega) (g.heap.size+1) (g.heap.size+1+1) b o x k C k1 k2 hxk HC.o q Ej Wf) vm.t (vm.b (by omega) (by omega)) (bi _ _) (λ_=>rfl)
    (λa W=>Ek w W F l p s m g.heap.size q.heap.size L S d (a.map Fin.val) cR)
    (λc a W=>c= .ret/\GI w W F p s m q.heap.size L S d (a.map Fin.val) cR)
  ?hI ?hIx hI0
    (λy a' _=>a'={tmps:= #[Value.pointer (some (aD l 0)), .slice (some (aD b o)) x k,pQ w.heap.size,undef, .pointer (some ⟨w.heap.size+1,0,none⟩),iV 0,iV (C:Int),pQ g.heap.size, .slice (some ⟨b,o+492*y.1,none⟩) (gD x y.1) (gD x y.1),undef,pQ l,iV 0,iV 0, .bool false,undef, .slice (some (aD b o)) x k,iV (x:Int),iV (C:Int), .bool false, .slice (some (aD b o)) x k,iV (x:Int), .bool false, .bool (decide ((8364:Int)<(x:Int))), .slice (some (aD b o)) x k,iV (x:Int), .bool (decide ((8364:Int)<(x:Int))), .bool (decide ((1073741824:Int)<(L.head:Int)+(C:Int))),pQ l,pQ l, .pointer (some (aD l 7)),iV (L.head:Int),iV (C:Int),iV ((L.head:Int)+(C:Int)), .bool (decide ((1073741824:Int)<(L.head:Int)+(C:Int))), .bool (decide ((L.n:Int)-((L.head:Int)-(L.tail:Int))<(C:Int))),iV (C:Int),pQ l,iV ((L.n:Int)-((L.head:Int)-(L.tail:Int))), .bool (decide ((L.n:Int)-((L.head:Int)-(L.tail:Int))<(C:Int))),pQ l,pQ l, .pointer (some (aD l 5)),iV (L.ep:Int),pQ l,pQ l, .pointer (some (aD l 7)),iV (L.head:Int),iV (C:Int), .agg #[iV (L.ep:Int),iV (L.head:Int),iV 0,iV (C:Int)], .slice (some (aD b o)) x k, .func (.func 225) #[] #[.pointer (some ⟨g.heap.size+1,0,none⟩), .pointer (some ⟨g.heap.size+1+1,0,none⟩)], .slice (some ⟨b,o+492*y.1,none⟩) (gD x y.1) (gD x y.1),undef,undef,undef,undef,undef,undef,undef,undef,undef,undef,undef,undef,undef,undef,undef,undef,undef,undef,undef,undef,undef],defers:= []}) ?hAx ?assign ?body ?done ?stop
 case hI=>exact λ_ _ _ _ h hg hr=>h.grown (by omega) Z1 hg hr
 case hIx=>exact λ_ _ _ _ _ h hg hr=>⟨h.1,h.2.grown (by omega) Z1 hg hr⟩
 case hAx=>exact λ_ _ _ _ _ _ h _ _=>h
 case assign=>
  intro l' a y W K hI hK;simp only [VH]
  gi_wp2
  exact hK _ _ (KeepsFrom.refl _ _) (vm.refl _ _ _) hI rfl
 case body=>
  rintro l' a y a' W Ul ⟨rr,I2⟩ hI rfl bq;have hlen:(a.map Fin.val).length=a.length:=by simp
  have GJ:(a ++ [y]).map Fin.val=a.map Fin.val ++ [y.1]:=by simp
  have hy:=y.2;have UD:=E.o.aw hI.kp hF;have jZ:=hs.oX hI.kp (λz hz _=>by cases hz;exact Dw);have hpt:=NK L S s d (a.map Fin.val);have Uu:prog.follows .mixedOrders=true:=by kernel_rfl
  have yw:gD x y.1=min 492 (x-492*y.1):=rfl;have hyx:492*y.1<x:=by have:=HC.o;omega
  have X3:Src W (some ⟨b,o+492*y.1,none⟩) (gD x y.1) (partOf d y.1):=by
   have:=jZ.sub (492*y.1) (gD x y.1) (by omega);rwa [show (d.drop (492*y.1)).take (gD x y.1)=partOf d y.1 by unfold partOf;rw [List.take_eq_take_iff,List.length_drop,UB];omega] at this
  have hbP:Bytes (partOf d y.1):=oD hd _;have ao2:b<w.heap.size:=hs.old _ rfl (by omega);have hFC:∀k,w.heap.size<=k->k<q.heap.size->¬FC F q.heap.size m W.drew k:=λk M r h=>by
   rcases h.1 with h|h
   .have:=iK.o k h;omega
   .omega
  have hdW:bX W.drew (FC F q.heap.size m W.drew) p s (rE L S s d (a.map Fin.val)).2 m (cR+(a.map Fin.val).length):=hI.dk.carry (λ_ _ _ _ h=>h) rfl (bS _);have R2:=We hdW L.f L.n L.ep (L.head+(a.map Fin.val).length) (a.map Fin.val).length C (some ⟨b,o+492*y.1,none⟩) (gD x y.1) (gD x y.1) (partOf d y.1) (X3.later (ai (bi _ _))) (λz hz _ h=>by
   cases hz;rcases h.1 with h|h
   .exact Dw h
   .have:q.heap.size<=b:=h;omega) hbP (by omega) (λh=>by cases h) (by have:=HO.o.n1;omega) HO.o.s (by omega)
  have ie:=NJ (L:=L) (S:=S) (s:=s) (d:=d) y.1 hI.ok;rw [Q] at ie;generalize jX (rE L S s d (a.map Fin.val)).2 s L.f L.n L.ep (L.head+(a.map Fin.val).length) (a.map Fin.val).length C (partOf d y.1)=Y at R2 ie;rw [<-GJ] at ie;have b0:W.drew.cell? (aD w.heap.size 0)=some (pQ l):=aM hI.bx.1;have X5:=hI.mrk;rw [Q] at X5;generalize hj:(a.map Fin.val).length=j at R2 X5;have hjC:j<17:=by omega
  have ud:((L.head+j:Nat):Int)=(L.head:Int)+(j:Int):=by omega
  rw [ud] at R2 X5;generalize gD x y.1=cL at*;have HJ:=yh hj;clear yw ud hj;have gY:Yh (∀W':World,W'.heap[w.heap.size]? =some (.cells #[.pointer (some ⟨l,0,none⟩)] 78 (0,0))->W'.heap[g.heap.size]? =some (.cells #[.int .i64 (L.ep:Int), .int .i64 ((L.head:Int)+(j:Int)), .int .i64 (j:Int), .int .i64 (C:Int)] 227 (0,0))->cW W' l p L->
      (W'.cell? (aD w.heap.size 0)=some (pQ l)/\W'.cell? (aD g.heap.size 0)=some (iV (L.ep:Int))/\W'.cell? (aD g.heap.size 1)=some (iV ((L.head:Int)+(j:Int)))/\W'.cell? (aD g.heap.size 2)=some (iV (j:Int))/\W'.cell? (aD g.heap.size 3)=some (iV (C:Int))/\
     W'.cell? (aD l 0)=some (pQ p)/\W'.cell? (aD l 1)=some (iV (L.f:Int))/\W'.cell? (aD l 2)=some (iV (L.n:Int)))):=
   λW' g1 g2 g3=>⟨aM g1,aM g2,bG g2,bK g2,fQ g2,g3.c0,g3.c1,g3.c2⟩
  obtain⟨X,My,aiI,HMk,VC,U⟩:=YO (gY.o W.drew hI.bx.1 X5 (UD.later (ai (bi _ _)))) hI R2 X5 ie hFC;clear hI R2 X5 ie hFC X3 jZ UD hdW hpt b0
  gi_wp2_with fail
  refine nH (S:=λW'=>W'.cell? (aD w.heap.size 0)=some (pQ l)/\W'.cell? (aD g.heap.size 0)=some (iV (L.ep:Int))/\W'.cell? (aD g.heap.size 1)=some (iV ((L.head:Int)+(j:Int)))/\W'.cell? (aD g.heap.size 2)=some (iV (j:Int))/\W'.cell? (aD g.heap.size 3)=some (iV (C:Int))/\
     W'.cell? (aD l 0)=some (pQ p)/\W'.cell? (aD l 1)=some (iV (L.f:Int))/\W'.cell? (aD l 2)=some (iV (L.n:Int))) Uu (by kernel_rfl) ?_
  refine wpAnyH_take (i:=0) (v:=pQ l) rfl (by kernel_rfl) (by kernel_rfl) (by kernel_rfl) (λ_ _ _ h=>h) (Or.inl ⟨by rfl,?_⟩) X.out ?_
  .rintro Z ⟨y1,y2,y3,y4,y5,y6,y7,y8⟩;go_simp
  try simp only [Act.put,List.setIfInBounds_toArray]
  refine wpAnyH_take (i:=1) (v:=pQ l) rfl (by kernel_rfl) (by kernel_rfl) (by kernel_rfl) (λ_ _ _ h=>h) (Or.inl ⟨by rfl,?_⟩) X.out ?_
  .rintro Z ⟨y1,y2,y3,y4,y5,y6,y7,y8⟩;go_simp
  try simp only [Act.put]
  refine wpAnyH_take (i:=2) (v:=pQ l) rfl (by kernel_rfl) (by kernel_rfl) (by kernel_rfl) (λ_ _ _ h=>h) (Or.inl ⟨by rfl,?_⟩) X.out ?_
  .rintro Z ⟨y1,y2,y3,y4,y5,y6,y7,y8⟩;go_simp
  try simp only [Act.put]
  refine wpAnyH_take (i:=3) (v:=kG p L.f L.n) rfl (by kernel_rfl) (by kernel_rfl) (by kernel_rfl) (λ_ _ _ h=>h) (Or.inl ⟨by rfl,?_⟩) X.out ?_
  .rintro Z ⟨y1,y2,y3,y4,y5,y6,y7,y8⟩;go_simp
  try simp only [Act.put]
  refine wpAnyH_take (i:=4) (v:=zl (L.ep:Int) ((L.head:Int)+(j:Int)) (j:Int) (C:Int)) rfl (by kernel_rfl) (by kernel_rfl) (by kernel_rfl) (λ_ _ _ h=>h) (Or.inl ⟨by rfl,?_⟩) X.out ?_
  .rintro Z ⟨y1,y2,y3,y4,y5,y6,y7,y8⟩;go_simp
  try simp only [Act.put]
  refine wpAnyH_take (i:=5) (v:= .slice (some ⟨b,o+492*y.1,none⟩) cL cL) rfl (by kernel_rfl) (by kernel_rfl) (by kernel_rfl) (λ_ _ _ h=>h) (Or.inl ⟨by rfl,?_⟩) X.out ?_
  .rintro Z ⟨y1,y2,y3,y4,y5,y6,y7,y8⟩;go_simp
  try simp only [Act.put]
  refine wpAnyH_take (i:=6) (v:=lf (L.ep:Int) ((L.head:Int)+(j:Int)) (j:Int) (C:Int) (some ⟨b,o+492*y.1,none⟩) cL cL) rfl (by kernel_rfl) (by kernel_rfl) (by kernel_rfl) (λ_ _ _ h=>h) (Or.inl ⟨by rfl,?_⟩) X.out ?_
  .rintro Z ⟨y1,y2,y3,y4,y5,y6,y7,y8⟩;go_simp
  try simp only [Act.put]
  refine wpAnyH_ready (rs:= [7]) (by kernel_rfl) (by simp) (AllReadyH.cons rfl (λK hK=>?_) AllReadyH.nil);go_simp;refine aiI.o.mono ?_;rintro e u ⟨rfl,cI,aY⟩;have eu:W.heap.size<=u.heap.size:=aY.size;have hd3:=cI.fc (w0:=w) (w:=W.drew) My.o.sz rfl;have pg:=(My.o.kp.trans (aa.ah (λ_=>False) (ai (bi W.heap.size W))) (λ_ h=>h.elim)).trans aY (λk A=>by
   rcases A.1 with h|h
   .exact .inl h
   .exact .inr (by omega))
  have rI:∀k R,w.heap.size<=k->k<q.heap.size->W.heap[k]? =some R->u.heap[k]? =some R:=λk R M r h3=>(aY.block k (aq h3) (U.o k M r)).trans h3;have iq:ij u w.heap.size l:=⟨rI _ _ (by omega) (by omega) My.o.bx.1,rI _ _ (by omega) (by omega) My.o.bx.2⟩;have Z2:=rI g.heap.size _ (by omega) (by omega) HMk.o;have qq:KeepsFrom q.heap.size W u:=⟨eu,λk R M r h3=>(aY.block k (aq r) (λh=>by
   rcases h.2.1 with ⟨cur,t,fz,hc⟩|h
   .have Us:W.heap[k]? =some (.cells cur t fz):=hc;rw [r] at Us;cases Us;cases h3
   .omega)).trans r⟩
  have Bb:vm (g.heap.size+1) (g.heap.size+1+1) W u:=⟨aY.block _ (by have:=My.o.sz;show _<W.heap.size;omega) (U.o _ (by omega) (by omega)),aY.block _ (by have:=My.o.sz;show _<W.heap.size;omega) (U.o _ (by omega) (by omega))⟩;have fH:=E.o.aw pg hF;obtain⟨S2,Vt,HKw,Un,adH,Z3,HKc⟩:=acl (gY.o u iq.1 Z2 fH) hd3 pg iq Z2 qq Bb;clear cI aY hd3 pg rI iq Z2 qq Bb fH;refine hK.out _ _ S2.out (λ_=>?_);clear hK K;try simp only [Act.put,List.setIfInBounds_toArray,List.set_cons_zero,List.set_cons_succ]
  refine wpAnyH_take (i:=8) (v:=iV Y.1) rfl (by kernel_rfl) (by kernel_rfl) (by kernel_rfl) (λ_ _ _ h=>h) (Or.inl ⟨by rfl,?_⟩) S2.out ?_
  .rintro Z ⟨y1,y2,y3,y4,y5,y6,y7,y8⟩;go_simp
  try simp only [Act.put,List.setIfInBounds_toArray]
  refine wpAnyH_done (by kernel_rfl) ?_ _;have er1:u.cell? ⟨w.heap.size+1,0,none⟩=some (iV 0):=aM Un.o.2;have ef1:=ae Un.o.2 0;by_cases kY:Y.1=0
  .have dY:(Y.1 == 0)=true:=(by rw [beq_iff_eq];exact kY);obtain⟨z1,z2,z3,z4,z5,_⟩:=S2.out;have Zy:=CallsIn.inRound l' (callsIn_wide (n:=3).2 (Q2 L.ep (L.head+j) j C u (by omega) (by omega)));rw [show ((L.head+j:Nat):Int)=(L.head:Int)+(j:Int) by omega] at Zy;have Uz:=yh kY;clear kY
   gi_wp2_with fail
   refine⟨trivial,?_⟩;refine Zy.mono ?_;rintro e W5 ⟨rfl,fa⟩;have xV:=(fa.block _ (aq adH.o)).trans adH.o;have m0:W5.cell? (aD g.heap.size 0)=some (iV (L.ep:Int)):=aM xV;have m1:W5.cell? (aD g.heap.size 1)=some (iV ((L.head:Int)+(j:Int))):=bG xV;have m2:W5.cell? (aD g.heap.size 2)=some (iV (j:Int)):=bK xV;have m3:W5.cell? (aD g.heap.size 3)=some (iV (C:Int)):=fQ xV;have mf:=λi=>ae xV i;obtain⟨HM5,jq⟩:=bU xV fa;clear xV fa Zy z1 z2 z3 z4 z5 er1 ef1
   gi_wp2
   obtain⟨WX,O⟩:∃WX,((((W5.setCell ⟨g.heap.size,0,none⟩ (.int .i64 (L.ep:Int))).setCell ⟨g.heap.size,1,none⟩ (.int .i64 ((L.head:Int)+(j:Int)+1))).setCell ⟨g.heap.size,2,none⟩ (.int .i64 ((j:Int)+1))).setCell ⟨g.heap.size,3,none⟩ (.int .i64 (C:Int)))=WX:=⟨_,rfl⟩;rw [O];have ew:aa (λk=>k=g.heap.size) W5 WX:=by
    rw [<-O];exact(((aL (F:=λk=>k=g.heap.size) _ rfl 0 _).trans (aL (F:=λk=>k=g.heap.size) _ rfl 1 _) (λ_ h=> .inl h)).trans (aL (F:=λk=>k=g.heap.size) _ rfl 2 _) (λ_ h=> .inl h)).trans (aL (F:=λk=>k=g.heap.size) _ rfl 3 _) (λ_ h=> .inl h)
   have hkx:KeepsFrom q.heap.size W5 WX:=by
    rw [<-O];exact((((KeepsOthers.setCell _ _ _).from _).trans ((KeepsOthers.setCell _ _ _).from _)).trans ((KeepsOthers.setCell _ _ _).from _)).trans ((KeepsOthers.setCell _ _ _).from _)
   have hmX:WX.heap[g.heap.size]? =some (.cells #[.int .i64 (L.ep:Int), .int .i64 ((L.head:Int)+(j:Int)+1), .int .i64 ((j:Int)+1), .int .i64 (C:Int)] 227 (0,0)):=by
    rw [<-O];exact(heap_setCell_same _ _ 3 _ _ _ (heap_setCell_same _ _ 2 _ _ _ (heap_setCell_same _ _ 1 _ _ _ (heap_setCell_same _ _ 0 _ _ _ HM5.o)))).trans (by simp)
   have fa:=jq.o;have ZA:=My.o.sz;have hc5:=ez fa;have jG:=Vt.o.carry hc5 (fa.block _ (E7 Vt.o)) fa.size;have lx:∀k R,¬k=g.heap.size->u.heap[k]? =some R->WX.heap[k]? =some R:=λk R M r=>(ew.block k (by have:=aq r;have:=fa.size;omega) M).trans ((fa.block k (aq r)).trans r);have pL:=fa.size;have hzX:=ew.size;have hIX:Ek w WX F l p s m g.heap.size q.heap.size L S d ((a ++ [y]).map Fin.val) cR:=by
    have J:=VC.o;have IW:cR+j+1<=cR+((a ++ [y]).map Fin.val).length:=(by rw [GJ,ed,List.length_singleton,HJ.o];omega);refine⟨by rw [J];exact Uz.o,by rw [J];exact(jG.E8 ew (E4 iK.o (by omega) (by omega))).le IW,?_,⟨lx _ _ (by omega) Un.o.1,lx _ _ (by omega) Un.o.2⟩,(HKw.o.trans (aa.ah (λ_=>False) fa) (λ_ h=>h.elim)).trans ew (λ_ h=> .inr (by omega)),by omega⟩;rw [hmX,GJ,ed,List.length_singleton,HJ.o,Q];rw [show ((L.head+(j+1):Nat):Int)=(L.head:Int)+(j:Int)+1 by omega,show ((j+1:Nat):Int)=(j:Int)+1 by omega]
   exact⟨(Z3.o.trans ⟨pL,λk R _ r _=>(fa.block k (aq r)).trans r⟩).trans hkx,HKc.o.t ⟨(ew.block _ (by omega) (by omega)).trans (fa.block _ (by omega)),(ew.block _ (by omega) (by omega)).trans (fa.block _ (by omega))⟩,hIX⟩
  .have dY:(Y.1 == 0)=false:=(by rw [fJ];exact kY);have Uz:=yh kY;clear kY
   gi_wp2
   have ew:aa (λk=>k=w.heap.size+1) u (u.setCell ⟨w.heap.size+1,0,none⟩ (.int .i64 Y.1)):=aL (F:=λk=>k=w.heap.size+1) u rfl 0 _;have P:GI w (u.setCell ⟨w.heap.size+1,0,none⟩ (.int .i64 Y.1)) F p s m q.heap.size L S d ((a ++ [y]).map Fin.val) cR:=by
    have J:=VC.o;have IW:cR+j+1<=cR+((a ++ [y]).map Fin.val).length:=(by rw [GJ,ed,List.length_singleton,HJ.o];omega);refine⟨by rw [J];exact Uz.o,by rw [J];exact(Vt.o.E8 ew (E4 iK.o (by omega) (by omega))).le IW,by rw [J];exact(heap_setCell_same _ _ 0 _ _ _ Un.o.2).trans (by simp),HKw.o.trans ew (λ_ h=> .inr (by omega)),by have:=My.o.sz;have:=Z3.o.size;have:=ew.size;omega⟩
   exact⟨Z3.o.trans ((KeepsOthers.setCell _ _ _).from _),rfl,P⟩
 case done=>
  intro D xs W hD oC hI J4;have GJ:xs.map Fin.val=List.range C:=oC;rw [GJ] at hI;have UD:=E.o.aw hI.kp hF;have c0:W.cell? (aD w.heap.size 0)=some (pQ l):=aM hI.bx.1;have c1:W.cell? ⟨w.heap.size+1,0,none⟩=some (iV 0):=aM hI.bx.2;obtain⟨g1,c7,g7,My,HlW⟩:=eK (ae hI.bx.2 0) UD.c7 (UD.fz 7) (yh hI) (yh UD);clear hI UD GJ oC;have Kr:¬FC F q.heap.size m W l:=λh=>by
   rcases h.1 with h|h
   .exact hF h
   .omega
  have ff:aa (λk=>k=l) W (W.setCell ⟨l,7,none⟩ (.int .i64 ((L.head:Int)+(C:Int)))):=aL (F:=λk=>k=l) W rfl 7 _;have aY:aa (λk=>k=w.heap.size+1) (W.setCell ⟨l,7,none⟩ (.int .i64 ((L.head:Int)+(C:Int)))) ((W.setCell ⟨l,7,none⟩ (.int .i64 ((L.head:Int)+(C:Int)))).setCell ⟨w.heap.size+1,0,none⟩ (.int .i64 0)):=aL (F:=λk=>k=w.heap.size+1) _ rfl 0 _;have iN:=(My.o.dk.E8 ff Kr).E8 aY (E4 iK.o (by omega) (by omega));have cq:cW ((W.setCell ⟨l,7,none⟩ (.int .i64 ((L.head:Int)+(C:Int)))).setCell ⟨w.heap.size+1,0,none⟩ (.int .i64 0)) l p {L with head:=L.head+C}:=cW.aw (G:=λk=>k=w.heap.size+1) ((heap_setCell_same _ _ 7 _ _ _ HlW.o).trans (by simp)) aY (by omega);have he1:((W.setCell ⟨l,7,none⟩ (.int .i64 ((L.head:Int)+(C:Int)))).setCell ⟨w.heap.size+1,0,none⟩ (.int .i64 0)).heap[w.heap.size+1]? =some (.cells #[.int .i64 0] 46 (0,0)):=(heap_setCell_same _ _ 0 _ _ _ ((ff.block _ (aq My.o.bx.2) (by omega)).trans My.o.bx.2)).trans (by simp);have Z4:aa (λk=>F k\/k=l) w ((W.setCell ⟨l,7,none⟩ (.int .i64 ((L.head:Int)+(C:Int)))).setCell ⟨w.heap.size+1,0,none⟩ (.int .i64 0)):=((My.o.kp.mono (λ_ h=> .inl h)).trans ff (λ_ h=> .inl (.inr h))).trans aY (λ_ h=> .inr (by omega));have hDl:=aq J4;have N:=(aY.block _ (by have:=ff.size;omega) (by omega)).trans ((ff.block _ hDl (by omega)).trans J4);have dC:=j3 ff.size aY.size;obtain⟨WZ,Z5⟩:∃WZ,((W.setCell ⟨l,7,none⟩ (.int .i64 ((L.head:Int)+(C:Int)))).setCell ⟨w.heap.size+1,0,none⟩ (.int .i64 0))=WZ:=⟨_,rfl⟩;rw [Z5] at iN cq he1 Z4 N dC;have IW:cR+(List.range C).length<=cR+17:=by rw [List.length_range];omega
  obtain⟨T,Px,HWZ,RK⟩:=Bh (Mx iK.o (iN.le IW) cq Z4 he1 N (by omega) eE jC (by omega) (by omega)) My.o.ok Z5 N;clear iN cq he1 Z4 N ff aY dC Z5;go_wp2;rw [HWZ.o];refine⟨by simp, .inl ⟨_,_,rfl,run_takeDeferred RK.o,?_⟩⟩;refine⟨_,fY rfl _ _ (w.heap.size+1) 0 rfl T.o.1,?_⟩;have J:=Px.o;rw [zt] at J T;unfold LG.append;rw [UB,HR.o,X1,aB (by decide),aB (by rw [J];decide)];exact⟨rfl,T.o.2⟩
 case stop=>
  rintro D c a W hD ⟨j,hj,lW⟩ ⟨rfl,P⟩ J4;have GJ:a.map Fin.val=List.range (j+1):=lW;rw [GJ] at P;have UD:=E.o.aw P.kp hF;have Ux:=P.no;have T:=yh (Mx iK.o (P.dk.le (by rw [List.length_range];omega:cR+(List.range (j+1)).length<=cR+17)) UD (P.kp.mono (λ_ h=> .inl h)) P.er J4 (by omega) eE jC (by omega) (by omega));rw [zt] at T Ux;have Pk:cU L S s d C=cU L S s d (j+1):=gC Ux C (by omega);obtain⟨HTo,HNn⟩:=bU Pk Ux;clear P UD Ux Pk
  gi_wp2
  refine⟨by simp, .inl ⟨_,_,rfl,run_takeDeferred J4,?_⟩⟩;refine⟨_,fY rfl _ _ (w.heap.size+1) _ rfl T.o.1,?_⟩;unfold LG.append;rw [UB,HR.o,X1,aB (by decide),HTo.o,aG HNn.o];exact⟨rfl,T.o.2⟩
end
def zV {w:World} {F:Nat->Prop} {p s l m:Nat} {S:DS} {L:LG} (h:ax w F p s S m) (g:cW w l p L) (n:L.Ok s) (q:¬F l) (a:Option Addr) (x k:Nat) (d:List Int) (i:Src w a x d) (Uw:∀y,a=some y->0<x->¬F y.block) (hd:Bytes d) (j:x<=k) (r:x<=140737488355328) (aU:S.puts.length+100<=4000000000000):
  Calls prog 171 #[pQ l, .slice a x k] w λe w'=>e= .returned (iV (L.append S s d).1)/\ax w' (more F w w') p s (L.append S s d).2.1 (m+17)/\cW w' l p (L.append S s d).2.2/\aa (λk=>F k\/k=l) w w':=by
 by_cases c:L.fW S x=0
 .have jI:=(jJ c).2.1;obtain⟨b,o,rfl⟩:=cX i jI;exact N8 h g n q b o x k d i (Uw _ rfl jI) hd j c aU
 .refine(NI h.old g n a x k r c).mono ?_;rintro e w' ⟨rfl,f⟩;unfold LG.append;rw [i.1,aG c];exact⟨rfl,((h.later f).more).le (by omega),g.later f,aa.ah _ f⟩
end B
end
section
def ue:∀{ns ms:CM} {x:Nat×List Int},x∈CM.bT ms ns->x∈ms\/x∈ns
 | [],_,_,h=> .inl h
 |q :: qs,ms,x,h=>by
  rcases ue (ns:=qs) (ms:=CM.put ms q.1 q.2) h with h|h
  .rcases CM.qU h with e|h
   .exact .inr (e▸List.mem_cons_self)
   .exact .inl h
  .exact .inr (List.mem_cons_of_mem _ h)
def vB {s:Nat} (h:L.Ok s) (S:DS) (d:List Int):(L.append S s d).2.2.Ok s/\(L.append S s d).2.2.begun=L.begun:=by
 unfold LG.append;split
 .exact⟨h,rfl⟩
 .rename_i a;obtain⟨_,_,_,b,c⟩:=jJ (Decidable.byContradiction a);split
  .exact⟨h,rfl⟩
  .have:=h.th;exact⟨⟨h.s,h.n1,h.n2,h.ep,h.top,by show L.tail<=L.head+_;omega,by show L.head+_<=L.tail+L.n;omega,by show L.head+_<=1073742080;omega,λ_=>by show L.head+_<=1073741824;omega⟩,rfl⟩
def qt (h:∀q∈ms,Bytes q.2):Bytes (cu ms):=by
 unfold cu;refine(iR _ _).append (Bytes.append ?_ ?_)
 .intro v b;obtain⟨q,_,a⟩:=List.mem_flatMap.1 b;exact iR _ _ v a
 .intro v b;obtain⟨q,c,a⟩:=List.mem_flatMap.1 b;exact h q c v a
def zG.form {B:Nat} {w:World} {l:List Int} {e:Ending} (h:zG B w l e) (n:0<l.length):∃g c,e= .returned (.slice (some (aD g 0)) l.length c)/\B<=g/\Src w (some (aD g 0)) l.length l/\l.length<=c:=by
 obtain⟨v,rfl,h⟩:=h;have h0:=h;obtain⟨j5,⟨e,j⟩|⟨g,a,cur,rfl,d,m,k⟩⟩:=h
 .omega
 .obtain⟨i,c',f,Rt,b,_⟩:=ay.fe h0 (by intro e;cases e);cases f;refine⟨g,a,rfl,d,?_,?_⟩
  .exact b.src
  .have:=b.le;simpa [bs] using this
def l9 (S:DS) (s:Nat):(S.fl s).2.puts.length<=S.puts.length:=by
 unfold DS.fl;split
 .exact bS _
 .exact dV _
def zW (S:DS) (s f:Nat) (x:Int):(cZ S s f x).2.puts.length<=S.puts.length+1:=by
 unfold cZ;split
 .exact Nat.le_succ _
 .split
  .exact Nat.le_succ _
  .split
   .exact jh _ _ _ _ _
   .exact j3 (l9 _ _) (jh _ _ _ _ _)
def zY (L:LG) (S:DS) (s:Nat):(L.trim S s).2.1.puts.length<=S.puts.length+2:=by
 have a:=nG L S s;unfold LG.trim;split
 .show (L.sync S s).2.puts.length<=_;omega
 .split
  .show (L.sync S s).2.puts.length<=_;omega
  .have b:=zW (L.sync S s).2 s L.f ((L.ep:Int)*4294967296+(L.head:Int));split
   .show (cZ _ _ _ _).2.puts.length<=_;omega
   .show (cZ _ _ _ _).2.puts.length<=_;omega
def zZ (G:SG) (S:DS) (s:Nat):(G.check S s).2.1.puts.length<=S.puts.length+G.ov.length+3:=by
 have a:=nG G.L S s;have b:=eF (G.L.sync S s).2 s G.y.home G.ov;have c:=zY G.L (aE (G.L.sync S s).2 s G.y.home G.ov).2 s;unfold SG.check;split
 .show (G.L.sync S s).2.puts.length<=_;omega
 .split
  .show (aE _ _ _ _).2.puts.length<=_;omega
  .split
   .show (LG.trim _ _ _).2.1.puts.length<=_;omega
   .show (LG.trim _ _ _).2.1.puts.length<=_;omega
def it.reF {w:World} {F:Nat->Prop} {p s q l m:Nat} {S:DS} {G:SG} (h:it w F p s c q l m S G) (a:∀k,F k->F2 k) (bq:∀k,F2 k->k<w.heap.size) (nq:¬F2 q) (b:¬F2 l) (e:¬F2 m):it w F2 p s c q l m S G:=
   ⟨h.d.mono a bq,h.st,h.lp,h.ch,nq,b,e,h.ql,h.qm,h.lm,h.lk,h.bg,h.hs,h.kb⟩
def mF (G:SG) (S:DS) (s:Nat):(G.check S s).2.2.y=G.y:=by
 unfold SG.check;split
 .rfl
 .split
  .rfl
  .split <;> rfl
section
variable {w w':World} {F:Nat->Prop} {p s cR q l m n:Nat} {S:DS} {G:SG} {cs:CM}
def Ky (h:it w F p s cR q l m S G) (M:Ch w n cs) (Kr:¬F n) (_hnq:n≠q) (ml:n≠l) (xv:n≠m) (pb:∀x∈cs,x.1<G.y.blocks) (UE:cs.length<=16) (dD:S.fL) (aU:S.puts.length+5000<=4000000000000):
  Calls prog 136 #[pQ q, .map (some n)] w λe w'=>e= .returned (iV (G.bI S s cs).1)/\it w' (more F w w') p s (cR+19) q l m (G.bI S s cs).2.1 (G.bI S s cs).2.2/\Ch w' n cs/\aa (λk=>F k\/k=l\/k=m) w w':=by
 have N:=N0 (λx j=>(M.len x j).2.1);have BG:=qt (λx j=>(M.len x j).2.2);have Z:=Km M;have T:=λ(w1:World) (ar:bW w w1)=>Gc (h.later ar).d.old (h.later ar).lp h.lk;obtain⟨c1,H,HC,iK,hqw,hlw,Wd,hnw,A7,Kp,xQ⟩:=LP h.st.c1 h M h.d.lt h.st.lt h.lp.lt h.ch.lt M.lt h.ql h.qm h.lm;obtain⟨R,f⟩:=bQ (G.bI S s cs);rw [<-f];unfold SG.bI at f;obtain⟨D,hD⟩:=bQ (cu cs);rw [<-hD] at f N BG Z;clear hD;have P:=(λ(r:World) (T:it r F p s cR q l m S G)=>CR T dD (by omega));have vl:0<D.length:=by omega
 have nP:=λ(w1:World) (a:Option Addr) (c:Nat)=>D9 a D.length c w1 (by omega);have sN:(D.length+491) / 492=dh D.length:=rfl;rw [sN] at nP;have apf:D.length<=8258:=by omega
 clear sN N;go_in;go_wp2_with fail;by_cases W:(G.L.room S).2=0
 .rw [aB (λh=>h W)] at f;rw [W] at T;clear W;have UF:G.roomy S D.length=decide ((dh D.length:Int)<=(G.L.room S).1):=rfl;refine Z.mono ?_;rintro e w1 ⟨⟨B1,bN,UF⟩,ar⟩;obtain⟨g,c,rfl,hg,kU,Xw⟩:=UF.form vl;obtain⟨c1,hr,cQ,I7⟩:=cO ((H.later ar).st.c1) (T w1 ar) ar kU;have hgw:w.heap.size<=g:=by omega
  have po:g<w1.heap.size:=kU.old _ rfl vl;clear Z T UF kU ar;go_wp2_with fail;refine bM hr λr bd=>?_;have eu:=bd.size;have dP:=cQ.trans (bd.mono cQ.size);have adK:=(I7.later bd);clear hr bd I7;go_wp2_with fail;refine(nP r _ _).mono ?_;by_cases O:G.roomy S D.length=true
  .have k2':¬(G.L.room S).1<(dh D.length:Int):=(by rw [UF] at O;have:=of_decide_eq_true O;omega);have wJ:G.made S s D.length=(0,S,G):=(by unfold SG.made;rw [aG O]);rw [wJ] at f;rw [aB (λh=>h rfl)] at f;clear h M O UF wJ P;generalize (G.L.room S).1=E1 at*;rintro e wz ⟨rfl,dE⟩;have Q:=dE.symm;subst Q;clear dE nP;have gY:=(H.later dP);have ZX:=(HC.later dP);have aiN:¬F g:=λI=>by have:=iK _ I;omega
   have J:∀k,F k->F k\/(w.heap.size<=k/\k<r.heap.size):=λk b=> .inl b;have ig:=(aa.ah (λk=>F k\/k=l\/k=m) dP);have I8:=B.zV gY.d gY.lp gY.lk gY.nl (some (aD g 0)) D.length c D adK (λy hy _ I=>by
    cases hy;exact aiN I) BG Xw (by omega) (by omega)
   have R3:=vB gY.lk S D;have cA:=gY.st.c1;obtain⟨A,hA⟩:=bQ (G.L.append S s D);rw [<-hA] at I8 R3 f;clear hA;by_cases t:A.1=0
   .rw [aB (λh=>h t)] at f;have dA:(A.1 != 0)=false:=(by rw [t];rfl);have z:=f;clear f t;go_wp2_with fail;refine pj I8 λw3 i ip aZ=>?_;obtain⟨ly,fK,Cf,MZ⟩:=cO aZ.size (gY.st.aw aZ (λe=>e.elim gY.nq A7)) (gY.ch.aw aZ (λe=>e.elim gY.nm (λe=>xQ e.symm))) (ZX.aw aZ (λe=>e.elim Kr ml));have C:=CQ Cf MZ (λe=>xv e.symm);have c7:=fK.c7;have u:=(aH i (aH ip (aH aZ (aH fK MZ))));clear I8 i ip aZ fK Cf MZ;go_wp2_with fail;refine fR C λw4 Za dW=>?_;have wk:=dW.size;have v:(it w4 (more F w w4) p s (cR+19) q l m A.2.1 {G with L:=A.2.2,ov:=CM.bT G.ov cs}/\Ch w4 n cs/\aa (λk=>F k\/k=l\/k=m) w w4):=by
     refine⟨⟨((u.1.le (by omega:cR+17<=cR+19)).aw dW (λk b e=>?_)).mono (λk b=>?_) (cJ (F:=F) (w:=w) iK (by omega)),u.2.2.2.1.aw dW Kp,u.2.1.aw dW xQ,Za,λe=>e.elim H.nq (λe=>by omega),λe=>e.elim H.nl (λe=>by omega),λe=>e.elim H.nm (λe=>by omega),A7,Kp,xQ,R3.1,R3.2.trans gY.bg,gY.hs,λx j=>?_⟩,u.2.2.2.2.aw dW xv,(ig.trans u.2.2.1 (λk b=>?_)).trans dW (λ_ e=> .inl (.inr (.inr e)))⟩
     .subst e;exact b.elim gY.nm (λh=>by omega)
     .rcases b with b|b
      .exact(J k b).elim .inl (λh=> .inr ⟨h.1,by omega⟩)
      .exact .inr ⟨by omega,by omega⟩
     .rcases ue j with j|j
      .exact gY.kb x j
      .exact pb x j
     .rcases b with b|b
      .exact(J k b).elim (λh=> .inl (.inl h)) (λh=> .inr h.1)
      .exact .inl (.inr (.inl b))
    clear C Za dW;go_wp2;go_ret;rw [z];exact⟨rfl,v⟩
   .rw [aG t] at f;have dA:(A.1 != 0)=true:=(by rw [gA];exact t);have z:=f;clear f t;go_wp2_with fail;refine pj I8 λw3 i ip aZ=>?_;have ly:=aZ.size;have v:(it w3 (more F w w3) p s (cR+19) q l m A.2.1 {G with L:=A.2.2}/\Ch w3 n cs/\aa (λk=>F k\/k=l\/k=m) w w3):=by
     refine⟨⟨(i.le (by omega:cR+17<=cR+19)).mono (λk b=>?_) (cJ (F:=F) (w:=w) iK (by omega)),gY.st.aw aZ (λe=>e.elim gY.nq A7),ip,gY.ch.aw aZ (λe=>e.elim gY.nm (λe=>xQ e.symm)),λe=>e.elim H.nq (λe=>by omega),λe=>e.elim H.nl (λe=>by omega),λe=>e.elim H.nm (λe=>by omega),A7,Kp,xQ,R3.1,R3.2.trans gY.bg,gY.hs,gY.kb⟩,ZX.aw aZ (λe=>e.elim Kr ml),ig.trans aZ (λk b=>?_)⟩
     .rcases b with b|b
      .exact(J k b).elim .inl (λh=> .inr ⟨h.1,by omega⟩)
      .exact .inr ⟨by omega,b.2⟩
     .rcases b with b|b
      .exact(J k b).elim (λh=> .inl (.inl h)) (λh=> .inr h.1)
      .exact .inl (.inr (.inl b))
    clear I8 i ip aZ;go_wp2;go_ret;rw [z];exact⟨rfl,v⟩
  .have k2':(G.L.room S).1<(dh D.length:Int):=(by rw [UF] at O;exact Decidable.byContradiction (λh=>O (decide_eq_true (by omega))));have wJ:G.made S s D.length=G.check S s:=(by unfold SG.made;rw [aB O]);rw [wJ] at f;have Ps:=zZ G S s;have hcy:=mF G S s;have hom:=h.ch.small;obtain⟨K,hK⟩:=bQ (G.check S s);rw [<-hK] at f Ps hcy P;clear h M O UF wJ hK;generalize (G.L.room S).1=E1 at*;rintro e r ⟨rfl,dE⟩;have Q:=dE.symm;subst Q;clear dE nP;have Z6:=P r (H.later dP);by_cases X:K.1=0
   .rw [aB (λh=>h X)] at f;have dK:(K.1 != 0)=false:=(by rw [X];rfl);clear X;go_wp2_with fail;refine fR Z6 λw5 R4 dX=>?_;have pL:=dX.size;have gY:=R4;have aiO:¬more F r w5 g:=λI=>I.elim (λI=>by have:=iK _ I;omega) (λI=>by omega);have aiP:=(adK.oX dX (λy hy _ e=>by
     cases hy;rcases e with e|e|e
     .have:g<w.heap.size:=iK _ e;omega
     .have:g=l:=e;omega
     .have:g=m:=e;omega))
    have Y:=((HC.later dP).aw dX (λe=>by
     rcases e with e|e|e
     .exact Kr e
     .exact ml e
     .exact xv e))
    have adM:¬more F r w5 n:=λe=>e.elim Kr (λe=>by omega);have R5:∀k,more F r w5 k->F k\/(w.heap.size<=k/\k<w5.heap.size):=λk b=>b.elim .inl (λh=> .inr ⟨by omega,h.2⟩);have lO:=((aa.ah (λk=>F k\/k=l\/k=m) dP).trans dX (λ_ h=> .inl h));have aiQ:∀x∈cs,x.1<K.2.2.y.blocks:=(by rw [hcy];exact pb);clear Z6 R4 dX;have I8:=B.zV gY.d gY.lp gY.lk gY.nl (some (aD g 0)) D.length c D aiP (λy hy _ I=>by
     cases hy;exact aiO I) BG Xw (by omega) (by omega)
    have R3:=vB gY.lk K.2.1 D;have cA:=gY.st.c1;obtain⟨A,hA⟩:=bQ (K.2.2.L.append K.2.1 s D);rw [<-hA] at I8 R3 f;clear hA;by_cases t:A.1=0
    .rw [aB (λh=>h t)] at f;have dA:(A.1 != 0)=false:=(by rw [t];rfl);have z:=f;clear f t;go_wp2_with fail;refine pj I8 λw6 i ip aZ=>?_;obtain⟨ly,fK,Cf,MZ⟩:=cO aZ.size (gY.st.aw aZ (λe=>e.elim gY.nq A7)) (gY.ch.aw aZ (λe=>e.elim gY.nm (λe=>xQ e.symm))) (Y.aw aZ (λe=>e.elim adM ml));have C:=CQ Cf MZ (λe=>xv e.symm);have c7:=fK.c7;have u:=(aH i (aH ip (aH aZ (aH fK MZ))));clear I8 i ip aZ fK Cf MZ;go_wp2_with fail;refine fR C λw7 Za dW=>?_;have wk:=dW.size;have v:(it w7 (more F w w7) p s (cR+19) q l m A.2.1 {K.2.2 with L:=A.2.2,ov:=CM.bT K.2.2.ov cs}/\Ch w7 n cs/\aa (λk=>F k\/k=l\/k=m) w w7):=by
      refine⟨⟨((u.1.le (by omega:(cR+2)+17<=cR+19)).aw dW (λk b e=>?_)).mono (λk b=>?_) (cJ (F:=F) (w:=w) iK (by omega)),u.2.2.2.1.aw dW Kp,u.2.1.aw dW xQ,Za,λe=>e.elim H.nq (λe=>by omega),λe=>e.elim H.nl (λe=>by omega),λe=>e.elim H.nm (λe=>by omega),A7,Kp,xQ,R3.1,R3.2.trans gY.bg,gY.hs,λx j=>?_⟩,u.2.2.2.2.aw dW xv,(lO.trans u.2.2.1 (λk b=>?_)).trans dW (λ_ e=> .inl (.inr (.inr e)))⟩
      .subst e;exact b.elim gY.nm (λh=>by omega)
      .rcases b with b|b
       .exact(R5 k b).elim .inl (λh=> .inr ⟨h.1,by omega⟩)
       .exact .inr ⟨by omega,by omega⟩
      .rcases ue j with j|j
       .exact gY.kb x j
       .exact aiQ x j
      .rcases b with b|b
       .exact(R5 k b).elim (λh=> .inl (.inl h)) (λh=> .inr h.1)
       .exact .inl (.inr (.inl b))
     clear C Za dW;go_wp2;go_ret;rw [z];exact⟨rfl,v⟩
    .rw [aG t] at f;have dA:(A.1 != 0)=true:=(by rw [gA];exact t);have z:=f;clear f t;go_wp2_with fail;refine pj I8 λw6 i ip aZ=>?_;have ly:=aZ.size;have v:(it w6 (more F w w6) p s (cR+19) q l m A.2.1 {K.2.2 with L:=A.2.2}/\Ch w6 n cs/\aa (λk=>F k\/k=l\/k=m) w w6):=by
      refine⟨⟨(i.le (by omega:(cR+2)+17<=cR+19)).mono (λk b=>?_) (cJ (F:=F) (w:=w) iK (by omega)),gY.st.aw aZ (λe=>e.elim gY.nq A7),ip,gY.ch.aw aZ (λe=>e.elim gY.nm (λe=>xQ e.symm)),λe=>e.elim H.nq (λe=>by omega),λe=>e.elim H.nl (λe=>by omega),λe=>e.elim H.nm (λe=>by omega),A7,Kp,xQ,R3.1,R3.2.trans gY.bg,gY.hs,gY.kb⟩,Y.aw aZ (λe=>e.elim adM ml),lO.trans aZ (λk b=>?_)⟩
      .rcases b with b|b
       .exact(R5 k b).elim .inl (λh=> .inr ⟨h.1,by omega⟩)
       .exact .inr ⟨by omega,b.2⟩
      .rcases b with b|b
       .exact(R5 k b).elim (λh=> .inl (.inl h)) (λh=> .inr h.1)
       .exact .inl (.inr (.inl b))
     clear I8 i ip aZ;go_wp2;go_ret;rw [z];exact⟨rfl,v⟩
   .rw [aG X] at f;have dK:(K.1 != 0)=true:=(by rw [gA];exact X);have z:=f;clear X f;go_wp2_with fail;refine fR Z6 λw5 R4 dX=>?_;have pL:=dX.size;have v:(it w5 (more F w w5) p s (cR+19) q l m K.2.1 K.2.2/\Ch w5 n cs/\aa (λk=>F k\/k=l\/k=m) w w5):=by
     have o:=R4.reF (F2:=more F w w5) (λk b=>b.elim .inl (λh=> .inr ⟨by omega,h.2⟩)) (cJ (F:=F) (w:=w) iK (by omega)) (λe=>e.elim H.nq (λe=>by omega)) (λe=>e.elim H.nl (λe=>by omega)) (λe=>e.elim H.nm (λe=>by omega));refine⟨⟨o.d.le (by omega),o.st,o.lp,o.ch,o.nq,o.nl,o.nm,o.ql,o.qm,o.lm,o.lk,o.bg,o.hs,o.kb⟩,(HC.later dP).aw dX (λe=>?_),(aa.ah (λk=>F k\/k=l\/k=m) dP).trans dX (λ_ h=> .inl h)⟩;rcases e with e|e|e
     .exact Kr e
     .exact ml e
     .exact xv e
    clear Z6 R4 dX;go_wp2;go_ret;rw [z];exact⟨rfl,v⟩
 .rw [aG W] at f;have d1:((G.L.room S).2 != 0)=true:=by rw [gA];exact W
  have z:=f;clear W f h M nP BG;generalize (G.L.room S).2=E at*;generalize (G.L.room S).1=E1 at*;refine Z.mono ?_;rintro e w1 ⟨⟨B1,bN,UF⟩,ar⟩;obtain⟨g,c,rfl,hg,kU,Xw⟩:=UF.form vl;have c1:=(H.later ar).st.c1;have hr:=T w1 ar;have cQ:=ar;clear Z T UF kU ar;go_wp2_with fail;refine bM hr λr bd=>?_;have U:=cQ.trans (bd.mono cQ.size);have v:(it r (more F w r) p s (cR+19) q l m S G/\Ch r n cs/\aa (λk=>F k\/k=l\/k=m) w r):=⟨H.GH ((H.d.later U).more.le (by omega)) (H.st.later U) (H.lp.later U) (H.ch.later U) H.lk H.bg H.kb,HC.later U,aa.ah _ U⟩;clear hr bd U;go_wp2;go_ret;rw [z];exact⟨rfl,v⟩
end
end
section
section
variable {w w':World} {F:Nat->Prop} {p s cR q l m t n:Nat} {S:DS} {G:SG} {T:TG}
def Oa (h:it w F p s cR q l m S G) (aU:S.puts.length+1<=4000000000000):
  Calls prog 72 #[pQ q] w λe w'=>e= .returned (iV (G.L.sync S s).1)/\it w' F p s cR q l m (G.L.sync S s).2 G/\aa F w w':=by
 have c:=B.zK h.d h.lp h.nl aU;have g:=h.st.c1;generalize G.L.sync S s=Z at*;go_in;go_wp2_with fail;refine pj c λw1 hd f a=>?_;have b:(it w1 F p s cR q l m Z.2 G/\aa F w w1):=⟨⟨hd,h.st.aw a h.nq,f,h.ch.aw a h.nm,h.nq,h.nl,h.nm,h.ql,h.qm,h.lm,h.lk,h.bg,h.hs,h.kb⟩,a⟩;go_wp2;go_ret;exact⟨rfl,b⟩
def TG.news (T:TG) (G:SG) (S:DS):CM:=T.puts.filter λx=> !decide (x.2=G.block S x.1)
def TG.bI (T:TG) (G:SG) (S:DS) (s:Nat):Int×DS×SG×TG:=
 if T.state G S≠0 then (T.state G S,S,G,T) else
 if T.news G S= [] then (0,S,{G with busy:=false},T.close) else
 if (G.bI S s (T.news G S)).1≠0 then ((G.bI S s (T.news G S)).1,(G.bI S s (T.news G S)).2.1,(G.bI S s (T.news G S)).2.2,T)
 else (0,(G.bI S s (T.news G S)).2.1,{(G.bI S s (T.news G S)).2.2 with busy:=false},T.close)
end
end
def CM.Ob (h:CM.Ok ms) (P:Nat×List Int->Bool):CM.Ok (ms.filter P):=List.Pairwise.filter P h
def CM.get_filter (h:CM.Ok ms) (P:Nat×List Int->Bool) (k:Nat):CM.get (ms.filter P) k=(CM.get ms k).filter (λc=>P (k,c)):=by
 induction ms with
 |nil=>rfl
 |cons x xs d=>
  have b:=List.pairwise_cons.1 h;obtain⟨j,c⟩:=x;rw [CM.lX];by_cases e:j=k
  .subst e;rw [aG rfl];cases a:P (j,c)
   .rw [List.filter_cons_of_neg (by rw [a];decide),d b.2,CM.kQ (λy f e=>by have:=b.1 y f;simp only at this;omega)];simp [a,Option.filter]
   .rw [List.filter_cons_of_pos a,CM.lX,aG rfl];simp [a,Option.filter]
  .rw [aB e];cases a:P (j,c)
   .rw [List.filter_cons_of_neg (by rw [a];decide),d b.2]
   .rw [List.filter_cons_of_pos a,CM.lX,aB e,d b.2]
def jN (ms X:CM) (UG:Nat->List Int) (left:Lit->Bool):Prop:=∀k,CM.get X k=if left (kk k)=false then (CM.get ms k).filter (λc=> !decide (c=UG k)) else none
def jN.start {left:Lit->Bool} (h:∀k c,CM.get ms k=some c->left (kk k)=true):jN ms [] UG left:=λk=>by
 show none=_;split
 .rename_i e;cases a:CM.get ms k with
  |none=>rfl
  |some c=>rw [h k c a] at e;cases e
 .rfl
def jN.done {left:Lit->Bool} (h:jN ms X UG left) (b:CM.Ok X) (a:CM.Ok ms) (c:∀kl,left kl=false):X=ms.filter (λx=> !decide (x.2=UG x.1)):=by
 refine CM.ext b (CM.Ob a _) (λk=>?_);rw [h k,aG (c _),CM.get_filter a]
def jN.aw {left:Lit->Bool} {c:List Int} (h:jN ms X UG left) (b:CM.get ms k=some c) (d:left (kk k)=true) (a:c=UG k):jN ms X UG (λz=>left z && !z.sameKey (kk k)):=λj=>by
 rw [h j];show _=if (left (kk j) && !(kk j).sameKey (kk k))=false then _ else _;rw [lB];by_cases e:j=k
 .subst e;simp [b,d,a,Option.filter]
 .simp [e]
def jN.put {left:Lit->Bool} {c:List Int} (h:jN ms X UG left) (a:CM.Ok X) (d:CM.get ms k=some c) (b:c≠UG k):jN ms (CM.put X k c) UG (λz=>left z && !z.sameKey (kk k)):=λj=>by
 rw [CM.kC _ _ _ _ a,h j];show _=if (left (kk j) && !(kk j).sameKey (kk k))=false then _ else _;rw [lB];by_cases e:j=k
 .subst e;simp [d,b,Option.filter]
 .simp [e]
section
def lH {P:Program} {k:TypeId} {R:Value->Option (DataW Value×List MemPlace)} {w w':World} {b r n:Nat} {D:DataW Value} {left:Lit->Bool} {el:Nat} (h:w.ranges P k R b r n D left el) (g:w'.heap[b]? =w.heap[b]?) (i:w'.heap[r]? =w.heap[r]?):w'.ranges P k R b r n D left el:=by
 obtain⟨f,a,c,d,e,m,l,p,j,o,rest⟩:=h;exact⟨f,a,c,d,e,g.trans m,l,p,j,i.trans o,rest⟩
section
variable {w w':World} {F:Nat->Prop} {p s cR q l m t n:Nat} {S:DS} {G:SG} {T:TG}
def GK {D:DataW Value} (h:it w F p s cR q l m S G) (ht:mD w F q l m t n G T) (hn:vq w n T.puts D) (hf:S.fuse≠0) (aU:S.puts.length+1<=4000000000000):
  Calls prog 135 #[pQ t] w λe w'=>e= .returned (.tuple #[.map (some w.heap.size),iV 0])/\Ch w' w.heap.size (T.news G S)/\B.ax w' F p s S (cR+T.puts.length)/\aa F w w':=by
 obtain⟨ml,RE,HS,HT,H,iK,B4,hm⟩:=xm hn.lt jl (yh h) (yh ht) (yh hn) (yh h.d.lt) ( @run_makeMap prog) (Ch.made w);obtain⟨wM,UA⟩:=bQ (w.alloc (.map #[] 0));rw [<-UA] at hm;have K:bW w wM:=by rw [UA];exact aJ _ _
 have Y:wM.heap.size=w.heap.size+1:=by rw [UA,World.size_alloc]
 have c1:=(ht.later K).c1;have HwM:=yh UA;have HM:=yh hm;have I:=yh K;subst UA;clear h ht hn hm K;go_in;go_wp2_with (at_range;refine wpList_range_own _ rfl _ 83 rfl 3 91 gk underlying83 Ra n T.puts.length D rfl (H.o.agree (I.o.block n ml)).own ?_;intro w0 pz uP yy;go_frame);have Bc:Yh (bW w w0):=I.o.trans (((bi _ _).grown uP (bS _) (λj E=>by cases E)).mono (by omega));have R:=yh (HM.o.agree (uP.block _ HM.o.lt (λe=>by cases e)));rw [Y] at pz yy;clear uP c1 B4 HM I Y HwM;go_loopw [5] (λ_ wr=>∃(left:Lit->Bool) (el u:Nat) (X:CM),wr.ranges prog 3 Ra n (w.heap.size+1) T.puts.length D left el/\Ch wr w.heap.size X/\jN T.puts X (G.block S) left/\B.ax wr F p s S (cR+u)/\u+el<=T.puts.length/\aa F w wr/\w.heap.size+2<=wr.heap.size)
    (λ_ wr=>wr.rangeLeft n (w.heap.size+1))
 case atStart=>
  exact⟨_,_,0, [],pz,R.o,jN.start (λk c hk=>(H.o.at' k c hk).1),HS.o.d.later Bc.o,by rw [H.o.siz];omega,aa.ah _ Bc.o,by omega⟩
 case round=>
  clear pz Bc R yy;obtain⟨left,el,u,X,mN,U,JA,hd,hu,eZ,eE⟩:=hrel;go_wp2_with (at_next;refine wpList_next_ranges _ rfl _ rfl 3 gk Ra (Value.int .i64) Value.agg (λkey kl gT=>by obtain⟨x,rfl,_⟩:=Maps.keyOf_int_inv underlying3 gT;exact⟨x,rfl⟩) Kl n (w.heap.size+1) T.puts.length _ _ _ rfl mN ?_ ?_)
  .intro _ vX;have W:X=T.news G S:=JA.done U.ok H.o.ok vX;have J:=yh (aH (W▸U) (aH (hd.le (by omega:cR+u<=cR+T.puts.length)) eZ));clear mN U JA hd eZ H HS HT W;go_wp2;go_ret2;exact⟨rfl,J.o⟩
  .intro x ca kl yd yp a pA gT A2 N is o8 bq fZ bo IR;obtain⟨k,c,rfl,rfl,X0,tB⟩:=H.o.meets gT N is;have nN:=H.o.len _ (CM.get_mem X0);have pb:k<G.y.blocks:=HT.o.kb _ (CM.get_mem X0);have GL:=vx HS.o k pb;injection tB with tB;have bw:=eU a nN.2.1;have aW:=eQ nN.2.1;have dL:=cF c;obtain⟨A,hA⟩:=bQ (bs c);rw [<-hA] at tB bw aW dL;have qh:A.length=512:=(by rw [hA,bs,List.length_map,nN.2.1]);have bV:=all_oneCell_toArray dL;subst tB;have Bd:aa (λj=>j=w.heap.size+1) wr a:=⟨fZ.os,fZ.tape,fZ.output,fZ.size,λj E dM=>fZ.block j E (λe=>dM (by injection e))⟩;have cI:=hd.aw Bd (λj E e=>by have:=iK.o _ E;omega);have Mw:=U.aw Bd (λe=>by omega);obtain⟨wS,Fl⟩:=bQ ((a.alloc (.cells bm 91)).setCells a.heap.size 0 A);have ef:=bw.2.2;have wG:bW a wS:=(by rw [Fl];exact bw.2.1);have X6:j8 wS 91 a.heap.size c:=(by rw [Fl];exact bw.1);have Wg:=(eZ.trans Bd (λj e=> .inr (by omega))).trans (aa.ah (λ_=>False) wG) (λ_ h=>h.elim);obtain⟨c0,h2,hzS,xy,ZI,HA,g⟩:=nw ((HT.o.asked Wg).c0) (rR (HS.o.asked (cI.later wG) Wg) k pb hf aU) wG.size (yh (aH (lH o8 (wG.block _ o8.owns.lt) (wG.block _ o8.lt)) (aH (Mw.later wG) (aH Wg X6)))) (yh Fl) (yh hA) (yh (aH X0 (aH A2 (aH JA nN))));have jC:w.heap.size+2<=a.heap.size:=(by omega);clear gT N is fZ U Mw eZ Bd hd cI wG X6 Wg dL X0 o8 bw JA A2 bo hA Fl;have hlS:=xy.o.2.2.2.lt
   go_upto_region 5 with (refine wpList_store_mid rfl 91 _ _ rfl a.heap.size 0 A.toArray rfl rfl ?h1 ?h2 bV ?_)
   case h1=>first|simpa using ef|(rw [qh] at ef;simpa using ef)
   have RL:=ZI.o;subst RL;generalize N2:(a.alloc (.cells bm 91)).setCells a.heap.size 0 A=wS at*;clear N2 ef ZI IR;unfold cV at h2;obtain⟨C,hC⟩:=bQ (bs (G.block S k));rw [<-hC] at h2;have Q:=yh hC;clear hC;go_wp2_with fail;refine fR h2 λi L aZ=>?_;obtain⟨ly,bw,lZ,wI⟩:=cO aZ.size (eU i GL) (eQ GL) (cF (G.block S k));rw [<-Q.o] at bw lZ wI;have ZS:C.length=512:=(by rw [Q.o,bs,List.length_map,GL]);have GG:=all_oneCell_toArray wI;have ef:=bw.2.2;obtain⟨f,Wc⟩:=bQ ((i.alloc (.cells bm 91)).setCells i.heap.size 0 C);have I6:bW i f:=(by rw [Wc];exact bw.2.1);have hzD:=I6.size;have CP:j8 f 91 i.heap.size (G.block S k):=(by rw [Wc];exact bw.1);have uf:∀j,w.heap.size<=j->¬F j:=λj E hf=>by have:=iK.o _ hf;omega
   have zU:=(xy.o.2.2.2.aw (aZ.block _ hlS (uf _ (by omega)))).aw (I6.block _ (by omega));have Z:f.rangeAt a.heap.size 0 A:=λj v N=>by
    have:=zU.news j v (by rw [<-HA.o];exact N);rwa [aN] at this
   have raC:f.rangeAt i.heap.size 0 C:=λj v N=>by
    have:=CP.news j v (by rw [<-Q.o];exact N);rwa [aN] at this
   have R6:=lH (lH xy.o.1 (aZ.block _ (by omega) HT.o.nn) (aZ.block _ xy.o.1.lt (uf _ (by omega)))) (I6.block _ (by omega)) (I6.block _ (by omega));have b:=(xy.o.2.1.aw aZ (uf _ (by omega))).later I6;have Wh:=(xy.o.2.2.1.trans aZ (λ_ h=> .inl h)).trans (aa.ah (λ_=>False) I6) (λ_ h=>h.elim);have r:B.ax f F p s S (cR+(u+1)):=L.later I6;by_cases O:c=G.block S k
   .have dv:(!decide (c=G.block S k))=false:=(by rw [decide_eq_true O];rfl);have J:Yh (f.ranges prog 3 Ra n (w.heap.size+1) T.puts.length D (λz=>left z && !z.sameKey (kk k)) pA/\Ch f w.heap.size X/\jN T.puts X (G.block S) (λz=>left z && !z.sameKey (kk k))/\B.ax f F p s S (cR+(u+1))/\(u+1)+pA<=T.puts.length/\aa F w f/\w.heap.size+2<=f.heap.size):=⟨R6,b,g.o.2.2.1.aw g.o.1 g.o.2.1 O,r,by omega,Wh,by omega⟩;have M:=g.o.2.2.2.2.1;clear h2 L aZ bw wI I6 CP zU R6 b Wh r O uf;subst Wc
    go_upto_region 6 with (refine wpList_store_mid rfl 91 _ _ rfl i.heap.size 0 C.toArray rfl rfl ?h3 ?h4 GG ?_)
    case h3=>first|simpa using ef|(rw [ZS] at ef;simpa using ef)
    case h4=>simpa using lZ
    go_wp2_with (first|refine wpList_load_mid rfl 91 _ rfl a.heap.size 0 rfl A _ Z underlying91 rfl aW ?_|refine wpList_load_mid rfl 91 _ rfl i.heap.size 0 rfl C _ raC underlying91 rfl lZ ?_|refine rT rfl _ _ _ rfl A C c (G.block S k) HA.o Q.o rfl rfl M GL false dv ?_)
    go_frame
    go_roundw;case rel=>exact⟨_,pA,u+1,X,J.o⟩
    case measure=>rw [J.o.1.left_eq,mN.left_eq];exact bq
   .have dv:(!decide (c=G.block S k))=true:=(by rw [decide_eq_false O];rfl);obtain⟨P,bD,nh,BJ,N6⟩:=b.store k g.o.2.2.2.1 c g.o.2.2.2.2.1 g.o.2.2.2.2.2;have RX:(Instr.mapUpdate 83 (.map (some w.heap.size)) (iV (k:Int)) (.agg A.toArray)).run prog f= .ok () P:=(by rw [HA.o];exact bD);have J:Yh (P.ranges prog 3 Ra n (w.heap.size+1) T.puts.length D (λz=>left z && !z.sameKey (kk k)) pA/\Ch P w.heap.size (CM.put X k c)/\jN T.puts (CM.put X k c) (G.block S) (λz=>left z && !z.sameKey (kk k))/\B.ax P F p s S (cR+(u+1))/\(u+1)+pA<=T.puts.length/\aa F w P/\w.heap.size+2<=P.heap.size):=⟨lH R6 (BJ.block _ (by omega) (λe=>by omega)) (BJ.block _ R6.lt (λe=>by omega)),nh,g.o.2.2.1.put b.ok g.o.1 O,r.aw BJ (λj E e=>uf _ (Nat.le_of_eq e.symm) E),by omega,Wh.trans BJ (λj e=> .inr (by omega)),by have:=BJ.size;omega⟩;have M:=g.o.2.2.2.2.1;clear h2 L aZ bw wI I6 CP zU R6 b Wh r O uf bD nh BJ N6;subst Wc
    go_upto_region 6 with (refine wpList_store_mid rfl 91 _ _ rfl i.heap.size 0 C.toArray rfl rfl ?h3 ?h4 GG ?_)
    case h3=>first|simpa using ef|(rw [ZS] at ef;simpa using ef)
    case h4=>simpa using lZ
    go_wp2_with (first|refine wpList_load_mid rfl 91 _ rfl a.heap.size 0 rfl A _ Z underlying91 rfl aW ?_|refine wpList_load_mid rfl 91 _ rfl i.heap.size 0 rfl C _ raC underlying91 rfl lZ ?_|refine rT rfl _ _ _ rfl A C c (G.block S k) HA.o Q.o rfl rfl M GL true dv ?_);go_roundw;case rel=>exact⟨_,pA,u+1,_,J.o⟩
    case measure=>rw [J.o.1.left_eq,mN.left_eq];exact bq
def GM (h:it w F p s cR q l m S G) (a:mD w F q l m t n G T) (b:S.fuse≠0) (aU:S.puts.length+1<=4000000000000):
  Calls prog 135 #[pQ t] w λe w'=>e= .returned (.tuple #[.map (some w.heap.size),iV 0])/\Ch w' w.heap.size (T.news G S)/\B.ax w' F p s S (cR+T.puts.length)/\aa F w w':=by
 obtain⟨D,c⟩:=a.ch;exact GK h a c b aU
end
end
section
def Aa (G:SG) (S:DS) (s:Nat) (c:CM):(G.bI S s c).2.2.y=G.y:=by
 have a:∀x,(G.made S s x).2.2.y=G.y:=λx=>by
  unfold SG.made;split
  .rfl
  .exact mF G S s
 unfold SG.bI;split
 .rfl
 .split
  .exact a _
  .split
   .exact a _
   .exact a _
def Ac {T:TG} {G:SG} {S:DS} (h:T.state G S=0):G.L.dead S=false:=by
 cases hd:G.L.dead S
 .rfl
 .exfalso;have:T.bT G S=3:=by unfold TG.bT;rw [hd];rfl
  unfold TG.state at h;rw [this,aG (by decide)] at h;revert h;decide
def GN {T:TG} {G:SG} {S:DS} {x:Nat×List Int} (h:x∈T.news G S):x∈T.puts:=(List.mem_filter.1 h).1
def Wi (T:TG) (G:SG) (S:DS):(T.news G S).length<=T.puts.length:=List.length_filter_le _ _
section
variable {w w':World} {F:Nat->Prop} {p s cR q l m t n:Nat} {S:DS} {G:SG} {T:TG}
def it.le (h:it w F p s cR q l m S G) (a:cR<=c'):it w F p s c' q l m S G:=
   ⟨h.d.le a,h.st,h.lp,h.ch,h.nq,h.nl,h.nm,h.ql,h.qm,h.lm,h.lk,h.bg,h.hs,h.kb⟩
def mD.re {H:Nat->Prop} {G':SG} (h:mD w F q l m t n G T) (a:aa H w w') (e:¬H t) (d:¬H n) (b:¬F2 t) (c:¬F2 n) (g:G'.y=G.y):mD w' F2 q l m t n G' T:=
   ⟨(a.block t (aq h.tx) e).trans h.tx,h.ch.aw a d,b,c,h.tq,h.tl,h.tm,h.tn,h.nq,h.nl,h.nm,λx f=>by rw [g];exact h.kb x f⟩
def R7 (h:it w F p s cR q l m S G) (a:mD w F q l m t n G T):
  Calls prog 137 #[pQ t] w λe w'=>e= .returned (.tuple #[])/\it w' F p s cR q l m S {G with busy:=false}/\mD w' F q l m t n {G with busy:=false} T.close/\aa (λk=>k=t\/k=n\/k=q) w w':=by
 refine(Mt h.st a).mono ?_;rintro e w1 ⟨rfl,f,g,i,b⟩;refine⟨rfl,⟨h.d.aw b (λk c e=>?_),i,h.lp.aw b (λe=>?_),h.ch.aw b (λe=>?_),h.nq,h.nl,h.nm,h.ql,h.qm,h.lm,h.lk,h.bg,h.hs,h.kb⟩,⟨f,g,a.nt,a.nn,a.tq,a.tl,a.tm,a.tn,a.nq,a.nl,a.nm,λx j=>by cases j⟩,b⟩
 .rcases e with e|e|e
  .exact a.nt (e▸c)
  .exact a.nn (e▸c)
  .exact h.nq (e▸c)
 .rcases e with e|e|e
  .exact a.tl e.symm
  .exact a.nl e.symm
  .exact h.ql e.symm
 .rcases e with e|e|e
  .exact a.tm e.symm
  .exact a.nm e.symm
  .exact h.qm e.symm
def R8 (w w':World) (F:Nat->Prop) (p s c q l m t n:Nat) (r:Int×DS×SG×TG) (e:Ending):Prop:=
 e= .returned (iV r.1)/\(it w' (more F w w') p s c q l m r.2.1 r.2.2.1/\mD w' (more F w w') q l m t n r.2.2.1 r.2.2.2)/\aa (λk=>F k\/k=l\/k=m\/k=t\/k=n\/k=q) w w'
def E9 {f:World} {i:Nat->Prop} {j:DS} {g:SG} {o:TG} (h0:it w F p s cR q l m S G) (b:mD w F q l m t n G T) (h:it f i p s c q l m j g) (a:mD f i q l m t n g o) (r:∀k,i k->F k\/(w.heap.size<=k/\k<f.heap.size)) (v:w.heap.size<=f.heap.size) (u:c<=c'):it f (more F w f) p s c' q l m j g/\mD f (more F w f) q l m t n g o:=by
 obtain⟨x,y,z,A,C⟩:=eK h0.st.lt h0.lp.lt h0.ch.lt (aq b.tx) b.ch.lt;exact⟨(h.reF r (cJ h0.d.lt v) (λe=>e.elim h0.nq (λe=>by omega)) (λe=>e.elim h0.nl (λe=>by omega)) (λe=>e.elim h0.nm (λe=>by omega))).le u,⟨a.tx,a.ch,λe=>e.elim b.nt (λe=>by omega),λe=>e.elim b.nn (λe=>by omega),a.tq,a.tl,a.tm,a.tn,a.nq,a.nl,a.nm,a.kb⟩⟩
def Kz (h:it w F p s cR q l m S G) (v:mD w F q l m t n G T) (UE:T.puts.length<=16) (dD:S.fL) (aU:S.puts.length+5000<=4000000000000):
  Calls prog 85 #[pQ t] w λe w'=>R8 w w' F p s (cR+40) q l m t n (T.bI G S s) e:=by
 obtain⟨u,f,b,iK,hqw,hlw,Wd,Mo,hnw,ml,J⟩:=LP (nO h v) (yh h) (yh v) (yh h.d.lt) h.st.lt h.lp.lt h.ch.lt (aq v.tx) v.ch.lt (Wi T G S) (yh (Aa G S s (T.news G S)));obtain⟨R,a⟩:=bQ (T.bI G S s);rw [<-a];unfold TG.bI at a;go_in;go_wp2_with fail;by_cases k:T.state G S=0
 .rw [aB (λh=>h k)] at a;have Fj:=vz (Ac k);rw [k] at u;clear k h v;refine bM u λw1 ar=>?_;have z:=GM (f.o.later ar) (b.o.later ar) Fj (by omega);by_cases H:T.news G S= []
  .rw [aG H] at a;have i:=yh a;clear a;have dC:=ar.size;have cQ:=yh ar;clear u ar;go_wp2_with fail;refine pj z λY sO cI aY=>?_;have eu:=aY.size;rw [H] at sO;have D:=λU=>sO.length U;have j:=R7 ((f.o.later cQ.o).asked cI aY) ((b.o.later cQ.o).asked aY);have ig:=yh (((aa.ah F cQ.o).trans aY (λ_ h=> .inl h)).mono (λk c=> .inl c:∀k,F k->F k\/k=l\/k=m\/k=t\/k=n\/k=q));clear z sO cI aY;go_wp2_with fail;refine pj j λW Z7 Z8 aZ=>?_;have g:=yh (aH (E9 (c':=cR+40) f.o b.o Z7 Z8 (λk c=> .inl c) (by have:=aZ.size;omega) (by omega)) (ig.o.trans aZ (λk c=> .inl (.inr (.inr (.inr c))))));clear j Z7 Z8 aZ;go_wp2;go_ret;rw [i.o];exact⟨rfl,g.o⟩
  .rw [aB H] at a;have vl:=List.length_pos_iff.2 H;obtain⟨N,I⟩:=bQ (T.news G S);have M:=yh (λx (Q:x∈N)=>(GN (T:=T) (G:=G) (S:=S) (I▸Q)));rw [<-I] at a vl ml J;have L:=yh I;obtain⟨K,P⟩:=bQ (G.bI S s N);rw [<-P] at a J;have Z:=yh P;clear P I H;rw [<-L.o] at z;have dC:=ar.size;have cQ:=yh ar;clear u ar;go_wp2_with fail;refine pj z λY sO cI aY=>?_;have eu:=aY.size;have fZ:=sO.lt;have r:=(b.o.later cQ.o).asked aY;have D:=λU=>sO.length U;have j:=Ky ((f.o.later cQ.o).asked cI aY) sO (λhf=>by have:=iK.o _ hf;omega) (by omega) (by omega) (by omega) (λx Q=>b.o.kb x (M.o x Q)) (by omega) dD aU;rw [<-Z.o] at j;have c0:=r.c0;have O:=yh r;have ig:=yh (((aa.ah F cQ.o).trans aY (λ_ h=> .inl h)).mono (λk c=> .inl c:∀k,F k->F k\/k=l\/k=m\/k=t\/k=n\/k=q));clear z sO cI aY r;go_wp2_with fail;refine pj j λW Z7 _ aZ=>?_;have ly:=aZ.size;have Z8:mD W (more F Y W) q l m t n K.2.2 T:=O.o.re aZ (λe=>by
    rcases e with e|e|e
    .exact b.o.nt e
    .exact b.o.tl e
    .exact b.o.tm e) (λe=>by
    rcases e with e|e|e
    .exact b.o.nn e
    .exact b.o.nl e
    .exact b.o.nm e) (λe=>e.elim b.o.nt (λe=>by omega)) (λe=>e.elim b.o.nn (λe=>by omega)) J.o
   have lO:=yh (ig.o.trans aZ (λk c=> .inl (c.elim .inl (λh=> .inr (h.elim .inl (λh=> .inr (.inl h)))))));by_cases y:K.1=0
   .rw [aB (λh=>h y)] at a;have dK:(K.1 != 0)=false:=(by rw [y];rfl);have i:=yh a;clear a y;have X:=R7 Z7 Z8;clear j Z7 Z8 aZ;go_wp2_with fail;refine pj X λw4 A C dW=>?_;have wk:=dW.size;have g:=yh (aH (E9 (c':=cR+40) f.o b.o A C (λk c=>c.elim .inl (λh=> .inr ⟨by omega,by omega⟩)) (by omega) (by omega)) (lO.o.trans dW (λk c=> .inl (.inr (.inr (.inr c))))));clear X A C dW;go_wp2;go_ret;rw [i.o];exact⟨rfl,g.o⟩
   .rw [aG y] at a;have dK:(K.1 != 0)=true:=(by rw [gA];exact y);have i:=yh a;clear a y;have g:=yh (aH (E9 (c':=cR+40) f.o b.o Z7 Z8 (λk c=>c.elim .inl (λh=> .inr ⟨by omega,h.2⟩)) (by omega) (by omega)) lO.o);clear j Z7 Z8 aZ;go_wp2;go_ret;rw [i.o];exact⟨rfl,g.o⟩
 .rw [aG k] at a;generalize T.state G S=E at*;have d:(E != 0)=true:=by rw [gA];exact k
  have i:=yh a;clear k a h v;refine bM u λw1 ar=>?_;have g:=yh (aH (E9 (c':=cR+40) f.o b.o (f.o.later ar) (b.o.later ar) (λk c=> .inl c) ar.size (by omega)) (aa.ah (λk=>F k\/k=l\/k=m\/k=t\/k=n\/k=q) ar));clear u ar;go_wp2;go_ret;rw [i.o];exact⟨rfl,g.o⟩
end
end
def fb (n:Nat):CM:=(List.range n).map λi=>(i,zs 512)
def Ad (n:Nat):(fb n).length=n:=by simp [fb]
def CS (n:Nat):fb (n+1)=fb n ++ [(n,zs 512)]:=by simp [fb,List.range_succ]
def CT (h:j<=n):∃r,fb n=fb j ++ r:=by
 refine⟨(fb n).drop j,?_⟩;have:fb j=(fb n).take j:=by
  unfold fb;rw [<-List.map_take,List.take_range,Nat.min_eq_left h]
 rw [this,List.take_append_drop]
def eB (S:DS) (s a n:Nat):Int×DS:=if (aE S s a (fb n)).1≠0 then aE S s a (fb n) else (aE S s a (fb n)).2.fl s
def l5 (S:DS) (s a n:Nat):(eB S s a n).2.puts.length<=S.puts.length+n:=by
 have h:=eF S s a (fb n);rw [Ad] at h;unfold eB;split
 .exact h
 .exact j3 (l9 _ _) h
def CU (hd:B.ax w F p s S c) (a b:Nat) (oE:a<=b) (M:b<=4000000000) (aU:S.puts.length+(b-a)+1<=4000000000000):
  Calls prog 38 #[pQ p,iV (a:Int),iV (b:Int)] w λe w'=>e= .returned (iV (eB S s a (b-a)).1)/\B.ax w' (more F w w') p s (eB S s a (b-a)).2 c/\aa F w w':=by
 obtain⟨n,rfl⟩:∃n,b=a+n:=⟨b-a,by omega⟩;rw [Nat.add_sub_cancel_left] at aU⊢;clear oE;obtain⟨R,t⟩:=bQ (eB S s a n);rw [<-t];unfold eB at t;obtain⟨iK,H,D⟩:=kF hd.lt hd t;clear hd t;go_in;go_wp2_with (at_make;refine iT _ rfl _ _ rfl _ 512 512 rfl rfl rfl (bS _) (by omega) ?_;intro w1 aV ar);have Bl:=aV.lt;have fS:Src w1 (some (aD w.heap.size 0)) 512 (zs 512):=by
  have:=aV.src (o:=0) (n:=512) (by rw [bH];omega);rwa [List.drop_zero,nr (by rw [bH];omega)] at this
 obtain⟨I7,RK,cQ⟩:=kF fS (H.o.later ar) ar;clear aV ar fS;have K:((a+n:Nat):Int)<=4000000000:=by omega
 go_loopw [8] (λi wr=>∃j:Nat,j<=n/\i=iV ((a+j:Nat):Int)/\(aE S s a (fb j)).1=0/\B.ax wr (more F w1 wr) p s (aE S s a (fb j)).2 c/\aa F w1 wr) (λi _=>a+n-(intOf i).toNat);case atStart=>exact⟨0,dV _,rfl,rfl,RK.o.more,aa.refl _ _⟩
 case round=>
  clear RK;obtain⟨j,N,rfl,u,hd,eZ⟩:=hrel;have C:=eZ.size;have sH:=eF S s a (fb j);rw [Ad] at sH;have RM:Yh (∀k,F k->k<w1.heap.size):=λk z=>by have:=iK.o k z;omega
  have A:¬F w.heap.size:=λz=>by have:=iK.o _ z;omega
  by_cases bq:j<n
  .have cC:((a+j:Nat):Int)<((a+n:Nat):Int):=(by omega);have kU:=I7.o.oX eZ (λy L _ e=>by
    cases L;exact A e)
   have ie:aE S s a (fb (j+1))=(aE S s a (fb j)).2.wr s ((a+j:Nat):Int) 512 (zs 512):=by
    rw [CS,fq,aB (λh=>h u)];simp only [aE];split
    .rfl
    .rename_i h;generalize DS.wr _ _ _ _ _=Z at*;rw [<-(Decidable.byContradiction h)]
   have f:=B.Eb hd ((a+j:Nat):Int) (some (aD w.heap.size 0)) 512 512 (zs 512) kU (by omega);rw [<-ie] at f;obtain⟨r,G⟩:=CT (Nat.succ_le_of_lt bq);have lG:aE S s a (fb n)=if (aE S s a (fb (j+1))).1≠0 then aE S s a (fb (j+1)) else aE (aE S s a (fb (j+1))).2 s a r:=by
    rw [G];exact fq S s a _ _
   obtain⟨Y,x⟩:=bQ (aE S s a (fb (j+1)));rw [<-x] at f lG;obtain⟨E,I,q⟩:=kF x lG eZ;clear x lG ie G hd eZ kU u sH;by_cases l:Y.1=0
   .have J:(Y.1 != 0)=false:=(by rw [l];rfl);have Uz:=yh l;clear l;go_wp2_with fail;refine fR f λw5 jG dX=>?_;have pL:=dX.size;have g:Yh (B.ax w5 (more F w1 w5) p s Y.2 c/\aa F w1 w5):=⟨jG.mono (vi C pL) (cJ (F:=F) (w:=w1) RM.o (by omega)),q.o.trans dX (λk d=>d.elim .inl (λh=> .inr h.1))⟩;clear f jG dX;go_wp2;go_roundw;case rel=>exact⟨j+1,by omega,by go_num,by rw [<-E.o];exact Uz.o,by rw [<-E.o];exact g.o.1,g.o.2⟩
    case measure=>simp [intOf];omega
   .have J:(Y.1 != 0)=true:=(by rw [gA];exact l);have Uz:=yh l;clear l;go_wp2_with fail;refine fR f λw5 jG dX=>?_;have pL:=dX.size;have g:Yh (B.ax w5 (more F w w5) p s Y.2 c/\aa F w w5):=⟨jG.mono (λk d=>by
     rcases d with (d|d)|d
     .exact .inl d
     .exact .inr ⟨by omega,by omega⟩
     .exact .inr ⟨by omega,d.2⟩) (cJ (F:=F) (w:=w) iK.o (by omega)),((aa.ah F cQ.o).trans q.o (λ_ h=> .inl h)).trans dX (λk d=>d.elim .inl (λh=> .inr (by omega)))⟩
    clear f jG dX;go_wp2;go_ret;have v:R=Y:=(by rw [D.o,I.o,aG Uz.o,aG Uz.o]);rw [v];exact⟨rfl,g.o⟩
  .obtain rfl:j=n:=(by omega);have f:=B.vu hd (by omega);have q:=yh eZ;have m:R=(aE S s a (fb j)).2.fl s:=(by rw [D.o,aB (λh=>h u)]);rw [<-m] at f;clear hd eZ m u sH bq;go_wp2_with fail;refine fR f λw5 jG dX=>?_;have pL:=dX.size;have g:Yh (B.ax w5 (more F w w5) p s R.2 c/\aa F w w5):=⟨jG.mono (λk d=>by
    rcases d with d|d
    .exact .inl d
    .exact .inr ⟨by omega,by omega⟩) (cJ (F:=F) (w:=w) iK.o (by omega)),((aa.ah F cQ.o).trans q.o (λ_ h=> .inl h)).trans dX (λk d=>d.elim .inl (λh=> .inr (by omega)))⟩
   clear f jG dX;go_wp2;go_ret;exact⟨rfl,g.o⟩
namespace B
def R9 (h:ax w F p s S cR) (f n:Nat) (L:f+2+n<=s) (N:n<=256) (aU:S.puts.length+400<=4000000000000):
  Calls prog 98 #[kG p f n] w λe w'=>e= .returned (iV (cN S s f n).1)/\ax w' (more F w w') p s (cN S s f n).2 cR/\aa F w w':=by
 obtain⟨O,l,D,x⟩:=cO h.ok.hi h.lt ((bi w.heap.size w).alloc (bS _) (.cells #[.pointer (some ⟨p,0,none⟩), .int .i64 f, .int .i64 n] 141)) ((h.boxed (.cells #[.pointer (some ⟨p,0,none⟩), .int .i64 f, .int .i64 n] 141)));have H:=D;clear h D;go_in;go_wp2_with (at_make;refine iT _ rfl _ _ rfl _ 512 512 rfl rfl ?c1 ?c2 ?c3 ?_);case c1=>rfl
 case c2=>omega
 case c3=>omega
 intro w1 aV ar;have iN:=x.later ar;have dH:w1.heap[w.heap.size]? =some (.cells #[.pointer (some ⟨p,0,none⟩), .int .i64 f, .int .i64 n] 141 (0,0)):=(ar.block _ (by simp)).trans (heap_alloc_new _ _);obtain⟨eE,J,K,RK⟩:=cO aV.lt dH aV iN;have cQ:=(H.trans (ar.mono (by simp)));have z:(¬F w.heap.size/\¬F (w.heap.size+1)):=⟨λh=>by have:=l _ h;omega,λh=>by have:=l _ h;omega⟩;have c1:=bG dH;clear aV ar iN dH;go_wp2;clear c1;go_loopw [4] (λi wr=>∃k:Nat,k<=n+2/\i=iV ((f+k:Nat):Int)/\(bE S s f k).1=0/\ax wr (more F w1 wr) p s (bE S s f k).2 cR/\aa F w1 wr) (λi _=>f+n+2-(intOf i).toNat);case atStart=>exact⟨0,dV _,by simp,rfl,RK.more,aa.refl _ _⟩
 case round=>
  obtain⟨k,b,rfl,E,hd,eZ⟩:=hrel;have dH:=(eZ.block _ (by omega) z.1).trans J;have Ae:j8 wr 5 (w.heap.size+1) (zs 512):=(eZ.block _ (by omega) z.2).trans K;have A:=aM dH;have c1:=bG dH;have c2:=bK dH;obtain⟨G,y,sP,CV,t,u⟩:=jE (FO p f n wr (by omega) (by omega) (by omega) (by omega)) E hd eZ dH Ae;clear E hd eZ dH Ae;go_wp2_with fail;refine bM G λM bd=>?_;have dH:=(bd.block _ (aq t)).trans t;have Ae:j8 M 5 (w.heap.size+1) (zs 512):=(bd.block _ (aq u)).trans u;obtain⟨cI,ig,eu,ly,uV⟩:=eK (sP.later bd) ((CV.trans (aa.ah (λ_=>False) bd) (λ_ h=>h.elim))) bd.size CV.size (pT S s f k);clear G bd A c1 c2;have A:=aM dH;by_cases q:k<n+2
  .have bq:((f+k:Nat):Int)<(f:Int)+2+(n:Int):=(by omega);have fS:=Ae.src (o:=0) (n:=512) (by rw [bH];omega);rw [List.drop_zero,nr (by rw [bH];omega)] at fS;have m:=Eb cI ((f+k:Nat):Int) (some ⟨w.heap.size+1,0,none⟩) 512 512 (zs 512) fS (by omega);have C:bE S s f (k+1)=(bE S s f k).2.wr s ((f+k:Nat):Int) 512 (zs 512):=jt y;rw [<-C] at m;clear fS C dH Ae cI;go_wp2_with fail;refine fR m λr c aZ=>?_;have a:=(c.mono (λk b=>by rcases b with (b|b)|b;exact .inl b;exact .inr ⟨b.1,by have:=aZ.size;omega⟩;exact .inr ⟨by omega,b.2⟩) (cJ (F:=F) (w:=w1) (λk b=>by have:=l k b;omega) (by have:=aZ.size;omega)):ax r (more F w1 r) p s (bE S s f (k+1)).2 cR);have Kh:=ig.trans aZ (λj a=>by rcases a with a|a;exact .inl a;exact .inr a.1);have Py:=a;have I9:=Kh;clear c aZ m a Kh;by_cases g:(bE S s f (k+1)).1=0
   .have d:((bE S s f (k+1)).1 == 0)=true:=(by rw [beq_iff_eq];exact g);have I:=g;clear g;go_wp2;go_roundw;case rel=>exact⟨k+1,by omega,by go_num,I,Py,I9⟩
    case measure=>simp [intOf];omega
   .have d:((bE S s f (k+1)).1 == 0)=false:=(by rw [fJ];exact g);have v:cN S s f n=bE S s f (k+1):=by
     have:bE S s f (n+2)=bE S s f (k+1):=gC g (n+2) (by omega);unfold cN;rw [this,aG g]
    clear g;go_wp2;go_ret;rw [v];exact⟨rfl,Py.from (w:=w) l (by omega) I9.size,(aa.ah F cQ).trans I9 (λ_ h=> .inl h)⟩
  .have bq:¬((f+k:Nat):Int)<(f:Int)+2+(n:Int):=(by omega);obtain rfl:k=n+2:=(by omega);have m:=vu cI (by omega);have v:cN S s f n=(bE S s f (n+2)).2.fl s:=by
    unfold cN;rw [aB (by have:=y;omega)]
   have Pz:=v;clear v dH Ae cI;go_wp2_with fail;refine fR m λr c aZ=>?_;have Py:=((c.wide (λk b=>by have:=l k b;omega) ly (by have:=aZ.size;omega):ax r (more F w1 r) p s ((bE S s f (n+2)).2.fl s).2 cR));have I9:=(ig.trans aZ (λj a=>by rcases a with a|a;exact .inl a;exact .inr a.1):aa F w1 r);clear c aZ m;go_wp2;go_ret;rw [Pz];exact⟨rfl,Py.from (w:=w) l (by omega) I9.size,(aa.ah F cQ).trans I9 (λ_ h=> .inl h)⟩
def KA (h:ax w F p s S cR) (dD:S.fL) (f n:Int) (aU:S.puts.length+500<=4000000000000):
  Calls prog 39 #[pQ p,iV f,iV n] w λe w'=>e= .returned (iV (cD S s f n).1)/\ax w' (more F w w') p s (cD S s f n).2 (cR+2)/\aa F w w':=by
 have C:=h.lt;have Dw:¬F w.heap.size:=λi=>by have:=h.lt _ i;omega
 have r:=(aJ w (.cells #[.pointer (some ⟨p,0,none⟩), .int .i64 f, .int .i64 n] 141));have rC:(w.alloc (.cells #[.pointer (some ⟨p,0,none⟩), .int .i64 f, .int .i64 n] 141)).heap[w.heap.size]? =some (.cells #[.pointer (some ⟨p,0,none⟩), .int .i64 f, .int .i64 n] 141 (0,0)):=heap_alloc_new _ _;have xn:=h.boxed (.cells #[.pointer (some ⟨p,0,none⟩), .int .i64 f, .int .i64 n] 141);have i:=tO xn f n;have t:=xn;unfold cD;by_cases q:cw S s f n=0
 .rw [aB (by omega)];obtain⟨Zs,a,b,rfl,rfl,oE,ar,bd⟩:=fV q;rw [q] at i;simp only [Int.toNat_natCast];have H:=sv S.take s a b;have apm:S.take.puts.length=S.puts.length:=rfl;have CW:=((dD.take).QV s a b);have A:=(λm (cI:ax m F p s S.take cR)=>R9 cI a b oE bd (by simpa [DS.take] using (show S.puts.length+400<=4000000000000 by omega)));generalize cN S.take s a b=Y at*;by_cases k:Y.1=0
  .rw [aB (λh=>h k)];have d:(Y.1 == 0)=true:=(by rw [beq_iff_eq];exact k);go_in;go_wp2_with fail;refine bM i λw1 c=>?_;have jI:w1.heap[w.heap.size]? =_:=(c.block _ (by simp)).trans rC;go_wp2_with fail;refine(zI (t.later c)).mono ?_;rintro e m ⟨rfl,cI,aY⟩;have mg:=eD jI aY Dw;have u:=aM mg;have v:=bG mg;have x:=bK mg;have ig:=((aa.ah F (r.trans (c.mono (by simp)))).trans aY (λ_ h=> .inl h));go_wp2_with fail;refine(A m cI).mono ?_;rintro e z ⟨rfl,g,aZ⟩;have tI:=eD mg aZ Dw;obtain⟨u,v,x,lO,eu,ly⟩:=jE (aM tI) (bG tI) (bK tI) ((ig.trans aZ (λ_ h=> .inl h))) ig.size aZ.size;have D:=Ko g a b 1 0 (by omega) (by omega) (by omega) (by omega) (CW.now a) (CW.now (a+1));rw [show ((1:Nat):Int)*4294967296+((0:Nat):Int)=4294967296 by decide] at D;go_wp2_with fail;refine fR D λE y dW=>?_;have wk:=dW.size;have G:=(aH ((y.mono (λk l=>by
    rcases l with (l|l)|l
    .exact .inl l
    .exact .inr ⟨by omega,by omega⟩
    .exact .inr ⟨by omega,l.2⟩) (cJ (F:=F) (w:=w) C (by omega)):ax E (more F w E) p s _ (cR+2))) (lO.trans dW (λj o=>by
    rcases o with o|o
    .exact .inl o
    .exact .inr (by omega))))
   go_wp2;go_ret;exact⟨rfl,G⟩
  .rw [aG k];have d:(Y.1 == 0)=false:=(by rw [fJ];exact k);go_in;go_wp2_with fail;refine bM i λw1 c=>?_;have jI:w1.heap[w.heap.size]? =_:=(c.block _ (by simp)).trans rC;go_wp2_with fail;refine(zI (t.later c)).mono ?_;rintro e m ⟨rfl,cI,aY⟩;have mg:=eD jI aY Dw;have u:=aM mg;have v:=bG mg;have x:=bK mg;have ig:=((aa.ah F (r.trans (c.mono (by simp)))).trans aY (λ_ h=> .inl h));go_wp2_with fail;refine(A m cI).mono ?_;rintro e z ⟨rfl,g,aZ⟩;have tI:=eD mg aZ Dw;have u:=aM tI;have v:=bG tI;have x:=bK tI;go_wp2;go_ret;exact⟨rfl,aH (((g.from C ig.size aZ.size).le (by omega):ax z (more F w z) p s Y.2 (cR+2))) (ig.trans aZ (λ_ h=> .inl h))⟩
 .rw [aG q];have d:(cw S s f n == 0)=false:=by rw [fJ];exact q
  generalize cw S s f n=U at*;go_in;go_wp2_with fail;refine bM i λw1 c=>?_;go_wp2;go_ret;exact⟨rfl,(aH (((t.later c).more (w:=w)).le (by omega:cR<=cR+2)) (aa.ah F (r.trans (c.mono (by simp)))))⟩
end B
def oG (m:Nat):Builtin.zeroCells (Value.int .u8 0).cells m=(bs (List.replicate m 0)).toArray:=by
 apply Array.ext';apply List.ext_getElem
 .simp [Builtin.zeroCells,bs,Value.cells]
 .intro i a b;simp [Builtin.zeroCells,bs,Nat.mod_one,Value.cells]
def El (w:World) (base:Nat) (C:TypeId) (v:Value) (n:Nat) (l:List Int) (m:Nat) (aA:w.ownsRow base 5 1 v n (bs l)) (D:n+m<=1000000) (CX:base<=w.heap.size) (vl:0<n+m):
  ∃g c w',(Builtin.append_ #[22,3] C #[v,iV (m:Int)]).run prog w= .ok (.slice (some (aD g 0)) (n+m) c) w'/\
   w'.ownsRow base 5 1 (.slice (some (aD g 0)) (n+m) c) (n+m) (bs (l ++ List.replicate m 0))/\w.grownBy w' v.ownBlock:=by
 obtain⟨i,q,gB,dC,eu⟩:=info_parts gh;have j5:(bs l).length=n:=by simpa using aA.1
 have Oc:l.length=n:=by simpa [bs] using j5
 have xZ:IntKind.i64.wrap (m:Int)=(m:Int):=by rw [IntKind.wrap_i64];omega
 have h0:¬(m:Int)<0:=by omega
 have d:¬(281474976710656<(m:Int)):=by omega
 have j:∀w,(asInt (iV (m:Int))).run prog w= .ok (m:Int) w:=λ_=>rfl;have lx:(bs (l ++ List.replicate m 0))=bs l ++ bs (List.replicate m 0):=by simp [bs]
 have b:∀(old:Nat) (row:Option Nat),
     (w.drew.alloc (.cells ((bs l).toArray ++ (bs (List.replicate m 0)).toArray ++ Builtin.zeroCells (Value.int .u8 0).cells (grownCap w (n+m) old 5-(n+m))) 5)).ownsRow base 5 1
      (.slice (some (aD w.heap.size 0)) (n+m) (grownCap w (n+m) old 5)) (n+m) (bs (l ++ List.replicate m 0))/\
   w.grownBy (w.drew.alloc (.cells ((bs l).toArray ++ (bs (List.replicate m 0)).toArray ++ Builtin.zeroCells (Value.int .u8 0).cells (grownCap w (n+m) old 5-(n+m))) 5)) row:=by
  intro old row;have wj:=grownCap_ge w (n+m) old 5;have Ee:=grownCap_le_maxLen w (n+m) old 5 (by unfold maxLen;omega);refine⟨⟨by simp [bs,Oc], .inr ⟨w.heap.size,_,_,rfl,CX,heap_alloc_new w.drew _,wj,Ee,?_,?_⟩⟩,⟨rfl,rfl,rfl,by simp,λk s _=>heap_alloc_old w.drew _ s⟩⟩
  .rw [oG];simp [bs,Oc];omega
  .rw [lx];simp only [Array.toList_append,Nat.mul_one];exact List.take_left' (by simp [bs,Oc])
 rcases aA.2 with ⟨rfl,rfl⟩|⟨g,a,cur,rfl,vA,z,PA,Ee,og,adP⟩
 .have vX:=List.eq_nil_of_length_eq_zero Oc;subst vX;have Z9:m≠0:=by omega
  have r:¬(281474976710656<Builtin.nextslicecap m 0):=by rw [nextslicecap_zero (by omega)];omega
  obtain⟨o,p⟩:=b 0 (Value.ownBlock (.slice none 0 0));simp only [Nat.zero_add] at o p⊢;refine⟨w.heap.size,_,_,?_,o,p⟩;have f:¬9223372036854775807<(m:Int):=by omega
  simp [Builtin.append_,j,sizeOf,typeInfo,zeroValue,q,gB,dC,eu,xZ,h0,d,Z9,r,f,Question.forced,run_firstCells_none,newRow,grownCap,oG]
 .have apn:cur.size=a:=by simpa using og
  have t:cur.toList.take n=bs l:=by simpa using adP
  by_cases Z9:m=0
  .subst Z9;have aiY:∀w,(asInt (iV 0)).run prog w= .ok 0 w:=λ_=>rfl;have aiZ:IntKind.i64.wrap 0=0:=(by decide);have bw:(storeCells (aD g n) []).run prog w= .ok () w:=rfl;refine⟨g,a,w,?_,by simpa using aA,⟨rfl,rfl,rfl,bS _,λ_ _ _=>rfl⟩⟩;simp [Builtin.append_,aiY,sizeOf,typeInfo,q,dC,eu,aiZ,PA,Addr.add_lit,bw]
  by_cases rU:n+m<=a
  .refine⟨g,a,w.setRow g (cur.toList.take n ++ bs (List.replicate m 0) ++ cur.toList.drop (n+m)).toArray,?_,⟨by simp [bs,Oc], .inr ⟨g,a,_,rfl,vA,setRow_heap w g cur _ 5 _ z,rU,Ee,?_,?_⟩⟩,⟨rfl,rfl,rfl,by simp,λk _ s=>setRow_other w g k _ (λe=>s (by simp [Value.ownBlock,e]))⟩⟩
   .have bw:=run_storeCells_at prog g n 5 (bs (List.replicate m 0)) 0 cur w z (by simp [bs];omega) (by intro u A;obtain⟨x,_,rfl⟩:=List.mem_map.1 A;rfl);simp only [Nat.add_zero] at bw;have BK:(bs (List.replicate m 0)).length=m:=(by simp [bs]);rw [BK] at bw;have y:(Builtin.zeroCells (Value.int .u8 0).cells m).toList=bs (List.replicate m 0):=(by rw [oG]);simp [Builtin.append_,j,sizeOf,typeInfo,zeroValue,q,gB,dC,eu,xZ,h0,d,Z9,rU,Addr.add_lit];rw [y,bw];simp [bs]
   .simp [bs];omega
   .rw [t,lx];exact List.take_left' (by simp [bs,Oc])
  .have IW:a<n+m:=(by omega);have r:¬(281474976710656<Builtin.nextslicecap (n+m) a):=(by have:=growslice_fits (need:=n+m) (old:=a) (bytes:=1) (by omega) (by omega);omega);obtain⟨o,p⟩:=b a (Value.ownBlock (.slice (some (aD g 0)) n a));refine⟨w.heap.size,_,_,?_,o,p⟩;have f:¬9223372036854775807<(n:Int)+(m:Int):=(by omega);simp [Builtin.append_,j,sizeOf,typeInfo,zeroValue,q,gB,dC,eu,xZ,h0,d,Z9,rU,r,f,Question.forced,(run_firstCells_some (P:=prog) w.drew 1 n (aD g 0) n a (bs l) (by omega) (by simpa using (aA.cells (g:=g) rfl))),newRow,grownCap,oG]
def vC:∀k m,bB (k+1) m=bB k m ++ [((m / 256 ^ k%256:Nat):Int)]
 |0,m=>by simp [bB]
 |k+1,m=>by
  rw [bB,vC k (m / 256),bB];simp [Nat.div_div_eq_div_mul,Nat.pow_succ,Nat.mul_comm]
def oH:∀k m,Bytes (bB k m)
 |0,_=>by intro x a;cases a
 |k+1,m=>by
  intro x a;rcases List.mem_cons.1 a with rfl|a
  .omega
  .exact oH k _ x a
def vD (w:World) (B p:Nat) (l:List Int):Prop:=
 B<=p/\B<=w.heap.size/\∃v,w.heap[p]? =some (.cells #[v] 137 (0,0))/\w.ownsRow B 5 1 v l.length (bs l)/\v.ownBlock≠some p
def vD.put {w1:World} {B:Nat} {a:List Int} {g:Nat} (i:B<=p) (b:B<=w.heap.size) (f:w.heap[p]? =some (.cells #[v] 137 (0,0))) (l:v.ownBlock≠some p) (bq:∀k,v.ownBlock=some k->B<=k)
    (aR:w.grownBy w1 v.ownBlock) (aA:w1.ownsRow B 5 1 (.slice (some (aD g 0)) a.length c) a.length (bs a)):
  w1.cell? (aD p 0)=some v/\w1.frozen? (aD p 0)=false/\vD (w1.setCell ⟨p,0,none⟩ (.slice (some ⟨g,0,none⟩) a.length c)) B p a/\Below B w (w1.setCell ⟨p,0,none⟩ (.slice (some ⟨g,0,none⟩) a.length c)):=by
 have o9:=(aR.block p ((lR.1 f).1) (λe=>l e.symm)).trans f;have d:g≠p:=by
  obtain⟨o,c',n,_,m,_⟩:=ay.fe aA (by simp);cases n;exact m.ne o9 (by decide)
 refine⟨aj o9 rfl,ae o9 0,⟨i,?_,_,heap_setCell_same _ _ _ _ _ _ o9,?_,?_⟩,?_⟩
 .simp [World.setCell];exact j3 b aR.size
 .exact aA.kept (mM w1 ⟨p,0,none⟩ _) (.inr (by simpa [Value.ownBlock] using d))
 .simpa [Value.ownBlock] using d
 .exact((bi _ w).grown aR b (λk e=>bq k e)).trans ((aa.setCell (F:=λj=>j=p) (p:=⟨p,0,none⟩) w1 rfl _).below (λj q=>by omega) (j3 b aR.size))
def mG (p B:Nat) (l:List Int) (m a:Nat) (w:World) (h:vD w B p l) (P:l.length+a<=100000) (F:m<=9223372036854775807):
  Calls prog 94 #[pQ p,iV (m:Int),iV (a:Int)] w λe w'=>e= .returned (.tuple #[])/\vD w' B p (l ++ bB a m)/\Below B w w':=by
 obtain⟨N,K,gB,dC,eu⟩:=info_parts gh;have H:=h;clear h;go_in;go_wp2;go_loopw [1,7] (λr i wr=>∃k:Nat,k<=a/\i=iV k/\r=iV ((m / 256 ^ k:Nat):Int)/\vD wr B p (l ++ bB k m)/\Below B w wr) (λ_ i _=>a-(intOf i).toNat);case atStart=>exact⟨0,dV _,rfl,by simp,by simpa [bB] using H,bi _ _⟩
 case round=>
  obtain⟨k,O,rfl,rfl,is,ev⟩:=hrel;by_cases bq:k<a
  .have cC:(k:Int)<(a:Int):=(by omega);obtain⟨G,M,v,j,aA,A⟩:=is;have db:=aM j;have b:(l ++ bB k m).length=l.length+k:=(by simp [aK]);rw [b] at aA;have x:m / 256 ^ (k+1)=m / 256 ^ k / 256:=(by rw [Nat.div_div_eq_div_mul,Nat.pow_succ]);have y:=vC k m;generalize I:m / 256 ^ k=Q at*;obtain⟨bt,d,s,t,Po,L3⟩:=jE aA j ev A x y;clear aA j ev A I x y;go_wp2_with (at_builtin;refine wpList_append_own _ rfl _ _ 22 rfl B 5 N (.int .u8 0) 1 1 underlying22 K gB dC eu rfl (by decide) _ _ _ rfl (bt.alloc _) (aD wr.heap.size 0) 1 1 [.int .u8 ((Q:Int)%256)] rfl rfl ?n1 ?n2 ?n3 ?n4 ?n5 ?_);case n1=>exact cell_one_new _ _ _
   case n2=>intro u C;simp at C;subst C;rfl
   case n3=>unfold maxLen;omega
   case n4=>omega
   case n5=>simp;omega
   intro T w1 cM k9 jF;obtain⟨g,c,rfl,J,L,BK⟩:=ay.fe cM jF;have z:List.map (Value.int .u8) l ++ (List.map (Value.int .u8) (bB k m) ++ [.int .u8 ((Q:Int)%256)])=bs (l ++ bB (k+1) m):=by
    rw [L3];simp [bs]
   have f:l.length+k+1=(l ++ bB (k+1) m).length:=(by simp [aK];omega);rw [z,f] at cM;have n:B<=(wr.alloc (.cells #[.int .u8 ((Q:Int)%256)] 5)).heap.size:=(by simp;omega);have py:=(lR.1 d).1;obtain⟨R,S,o,q⟩:=vD.put G n ((Below.heap_alloc _ _ _ py).trans d) t (λk e=>(bt.lt k e).1) k9 cM;rw [<-f] at o q;have E:=(aH o (((s.alloc M _).trans q)));clear cM k9 jF L J z f o q bt d s t L3;go_wp2;go_roundw;case rel=>exact⟨k+1,by omega,by go_num,by rw [Po];simp,E⟩
   case measure=>simp [intOf];omega
  .have cC:¬(k:Int)<(a:Int):=(by omega);have pg:k=a:=(by omega);subst pg;have D:=(aH is ev);clear is ev;go_wp2
   go_end0
   exact⟨rfl,D⟩
def PB (s:ByteArray):List Int:=s.data.toList.map (λb=>(b.toNat:Int))
def Wj (s:ByteArray):(PB s).length=s.size:=by simp [PB]
def Od (s:ByteArray):Lib.strCells s=bs (PB s):=by simp [Lib.strCells,bs,PB]
def Oe (p B:Nat) (l:List Int) (s:ByteArray) (w:World) (h:vD w B p l) (D:0<s.size) (C:l.length+s.size<=100000):
  Calls prog 93 #[pQ p, .string s] w λe w'=>e= .returned (.tuple #[])/\vD w' B p (l ++ PB s)/\Below B w w':=by
 obtain⟨z,x,gB,dC,eu⟩:=info_parts gh;obtain⟨t,q,v,b,aA,n⟩:=h;obtain⟨db,bt,j,i⟩:=cO (aM b) aA b n;clear aA b n;go_in;go_wp2_with (at_builtin;refine Lib.wpList_append_own_string _ rfl _ _ 22 9 rfl B 5 z underlying22 underlying9 x gB dC eu _ _ _ rfl bt s rfl ?n3 ?n4 ?n5 ?_);case n3=>unfold maxLen;omega
 case n4=>omega
 case n5=>exact q
 intro A w1 cM k9 jF;have o:A≠ .slice none 0 0:=by rintro rfl;rcases cM.2 with ⟨_,h⟩|⟨_,_,_,h,_⟩;omega;cases h
 obtain⟨g,c,rfl,u,y,BK⟩:=ay.fe cM o;rw [Od] at cM;have m:bs l ++ bs (PB s)=bs (l ++ PB s):=by simp [bs]
 have a:l.length+s.size=(l ++ PB s).length:=by simp [Wj]
 rw [m,a] at cM;obtain⟨E,F,d,f⟩:=vD.put t q j i (λk e=>(bt.lt k e).1) k9 cM;rw [<-a] at d f;have r:=(aH d f);clear cM k9 jF y u m a d f bt j i o BK;go_wp2
 go_end0
 exact⟨rfl,r⟩
def KB {b:Array Oper} {o:Oper} {a:Act} {K:Act->World->Prop} {Q:Exit->Act->World->Prop} {E:Prop}
    (e:o.guard=none) (s x:Operand) (me:o.op=Op.call {callee:=Callee.builtin Builtin.append,args:= #[s,x],argTypes:= #[22,3]})
    (base:Nat) (v:Value) (n:Nat) (l:List Int) (m:Nat) (i:a.eval s=v) (k:a.eval x=iV (m:Int)) (aA:w.ownsRow base 5 1 v n (bs l)) (f:n+m<=1000000) (CX:base<=w.heap.size) (vl:0<n+m)
    (d:∀g c w',w'.ownsRow base 5 1 (.slice (some (aD g 0)) (n+m) c) (n+m) (bs (l ++ List.replicate m 0))->w.grownBy w' v.ownBlock->K (a.put o.dst (.slice (some (aD g 0)) (n+m) c)) w'):
  if Region.wanted o (yielded b a.tmps)=true then Oper.wp prog o a w K Q else E:=by
 have j:Region.wanted o (yielded b a.tmps)=true:=by simp [Region.wanted,e]
 rw [aG j];obtain⟨g,c,w',bD,p,q⟩:=El w base o.type v n l m aA f CX vl;unfold Oper.wp;simp [execOp,me,resolve,invoke,builtin,i,k,bD,Result.andThen];exact d g c w' p q
def KC (p B:Nat) (l:List Int) (m:Nat) (w:World) (h:vD w B p l) (vX:0<l.length) (A:l.length+m<=100000):
  Calls prog 95 #[pQ p,iV ((l.length+m:Nat):Int)] w λe w'=>e= .returned (.tuple #[])/\vD w' B p (l ++ List.replicate m 0)/\Below B w w':=by
 obtain⟨s,o,v,n,aA,x⟩:=h;obtain⟨g,c,y,u,C,_⟩:=ay.fe aA (by rintro rfl;rcases aA.2 with ⟨_,h⟩|⟨_,_,_,h,_⟩;omega;cases h);subst y;have db:=aM n;have kt:w.drew.ownsRow B 5 1 (.slice (some (aD g 0)) l.length c) l.length (bs l):=aA;have adQ:((l.length+m:Nat):Int)-(l.length:Int)=(m:Int):=by omega
 have ai0:∀{f d:Nat} {a:World},a.ownsRow B 5 1 (.slice (some (aD f 0)) (l.length+m) d) (l.length+m) (bs (l ++ List.replicate m 0))->w.drew.grownBy a (Value.ownBlock (.slice (some (aD g 0)) l.length c))->
   a.cell? (aD p 0)=some (.slice (some (aD g 0)) l.length c)/\a.frozen? (aD p 0)=false/\Yh (vD (a.setCell ⟨p,0,none⟩ (.slice (some ⟨f,0,none⟩) (l.length+m) d)) B p (l ++ List.replicate m 0)/\Below B w (a.setCell ⟨p,0,none⟩ (.slice (some ⟨f,0,none⟩) (l.length+m) d))):=by
  intro f d a fN j6;have j:l.length+m=(l ++ List.replicate m (0:Int)).length:=by simp
  rw [j] at fN;obtain⟨q,r,i,b⟩:=vD.put (w:=w.drew) s o n x (λk e=>(aA.lt k e).1) j6 fN;rw [<-j] at i b;exact⟨q,r,i,⟨b.os,b.tape,b.output,b.size,b.block⟩⟩
 have z:IntKind.i64.wrap (m:Int)=(m:Int):=by rw [IntKind.wrap_i64];omega
 generalize t:l.length+m=N at*;go_in;go_wp2
 go_region_law
  (first
   |(refine KB (by rfl) _ _ (by rfl) B (.slice (some (aD g 0)) l.length c) l.length l m (by rfl) (by rfl) (yh kt).out (by omega) o (by omega) ?_;intro f d a fN j6;obtain⟨q,r,i⟩:=ai0 (t▸fN) j6))
 all_goals
  go_end0
  exact⟨rfl,i.out⟩
def vE (s l n:Int):Prop:=(18<=l/\l<=256)/\(4<=n/\n<=1024)/\n%4=0/\(l+n / 4+6<=s/\s<=2048)
def x8 (s l n:Int) (v:Value) (x:Int):Prop:=
   (vE s l n/\v= .agg #[iV l,iV (3+l),iV (s-(3+l)),iV n,iV (2+n / 4)]/\x=0)\/(¬vE s l n/\v= .agg #[iV 0,iV 0,iV 0,iV 0,iV 0]/\x=22)
def cm (w:World) (a b:Obj):bW w ((w.alloc a).alloc b):=Below.alloc (Below.alloc (bi _ _) (bS _) _) (by simp) _
def rb (s l n:Int) (w:World) (c:18<=l) (d:l<=256) (f:4<=n) (g:n<=1024) (a:n%4=0) (s1:l+n / 4+6<=s) (s2:s<=2048):
  Calls prog 92 #[.agg #[iV s,iV l,iV n]] w λe w'=>e= .returned (.tuple #[.agg #[iV l,iV (3+l),iV (s-(3+l)),iV n,iV (2+n / 4)],iV 0])/\bW w w':=by
 have b:n.tmod 4=n%4:=Int.tmod_eq_emod_of_nonneg (by omega);have hd:n.tdiv 4=n / 4:=Int.tdiv_eq_ediv_of_nonneg (by omega);have s3:3+l+(2+n / 4)+1<=s:=by omega
 go_in;go_wp2;refine bodyPost_ret (v:= .tuple #[.agg #[iV l,iV (3+l),iV (s-(3+l)),iV n,iV (2+n / 4)],iV 0]) (by simp [results,results92,go_sem]) rfl ⟨rfl,cm w _ _⟩
def Of (s l n:Int) (w:World) (h:¬(18<=l/\l<=256)):
  Calls prog 92 #[.agg #[iV s,iV l,iV n]] w λe w'=>e= .returned (.tuple #[.agg #[iV 0,iV 0,iV 0,iV 0,iV 0],iV 22])/\bW w w':=by
 by_cases a:18<=l
 .have b:¬l<=256:=by omega
  go_in;go_wp2;exact bodyPost_ret (v:= .tuple #[.agg #[iV 0,iV 0,iV 0,iV 0,iV 0],iV 22]) (by simp [results,results92,go_sem]) rfl ⟨rfl,cm w _ _⟩
 .have c:l<18:=by omega
  go_in;go_wp2;exact bodyPost_ret (v:= .tuple #[.agg #[iV 0,iV 0,iV 0,iV 0,iV 0],iV 22]) (by simp [results,results92,go_sem]) rfl ⟨rfl,cm w _ _⟩
def Og (s l n:Int) (w:World) (d:18<=l) (f:l<=256) (h:¬(4<=n/\n<=1024)):
  Calls prog 92 #[.agg #[iV s,iV l,iV n]] w λe w'=>e= .returned (.tuple #[.agg #[iV 0,iV 0,iV 0,iV 0,iV 0],iV 22])/\bW w w':=by
 by_cases a:4<=n
 .have b:¬n<=1024:=by omega
  go_in;go_wp2;exact bodyPost_ret (v:= .tuple #[.agg #[iV 0,iV 0,iV 0,iV 0,iV 0],iV 22]) (by simp [results,results92,go_sem]) rfl ⟨rfl,cm w _ _⟩
 .have c:n<4:=by omega
  go_in;go_wp2;exact bodyPost_ret (v:= .tuple #[.agg #[iV 0,iV 0,iV 0,iV 0,iV 0],iV 22]) (by simp [results,results92,go_sem]) rfl ⟨rfl,cm w _ _⟩
def Oh (s l n:Int) (w:World) (c:18<=l) (d:l<=256) (f:4<=n) (g:n<=1024) (h:¬n%4=0):
  Calls prog 92 #[.agg #[iV s,iV l,iV n]] w λe w'=>e= .returned (.tuple #[.agg #[iV 0,iV 0,iV 0,iV 0,iV 0],iV 22])/\bW w w':=by
 have b:n.tmod 4=n%4:=Int.tmod_eq_emod_of_nonneg (by omega);have a:(n%4 != 0)=true:=by rw [gA];exact h
 go_in;go_wp2;exact bodyPost_ret (v:= .tuple #[.agg #[iV 0,iV 0,iV 0,iV 0,iV 0],iV 22]) (by simp [results,results92,go_sem]) rfl ⟨rfl,cm w _ _⟩
def Oi (s l n:Int) (w:World) (g:18<=l) (i:l<=256) (j:4<=n) (k:n<=1024) (c:n%4=0) (h:¬(l+n / 4+6<=s/\s<=2048)):
  Calls prog 92 #[.agg #[iV s,iV l,iV n]] w λe w'=>e= .returned (.tuple #[.agg #[iV 0,iV 0,iV 0,iV 0,iV 0],iV 22])/\bW w w':=by
 have f:n.tmod 4=n%4:=Int.tmod_eq_emod_of_nonneg (by omega);have hd:n.tdiv 4=n / 4:=Int.tdiv_eq_ediv_of_nonneg (by omega);by_cases b:3+l+(2+n / 4)+1<=s
 .have a:¬s<=2048:=by omega
  go_in;go_wp2;exact bodyPost_ret (v:= .tuple #[.agg #[iV 0,iV 0,iV 0,iV 0,iV 0],iV 22]) (by simp [results,results92,go_sem]) rfl ⟨rfl,cm w _ _⟩
 .have d:s<3+l+(2+n / 4)+1:=by omega
  by_cases a:2048<s
  .omega
  .clear h;go_in;go_wp2;exact bodyPost_ret (v:= .tuple #[.agg #[iV 0,iV 0,iV 0,iV 0,iV 0],iV 22]) (by simp [results,results92,go_sem]) rfl ⟨rfl,cm w _ _⟩
def GO (s l n:Int) (w:World):
  Calls prog 92 #[.agg #[iV s,iV l,iV n]] w λe w'=>∃v x,e= .returned (.tuple #[v,iV x])/\x8 s l n v x/\bW w w':=by
 have b:¬vE s l n->∀(e:Ending) (w':World),(e= .returned (.tuple #[.agg #[iV 0,iV 0,iV 0,iV 0,iV 0],iV 22])/\bW w w')->∃v x,e= .returned (.tuple #[v,iV x])/\x8 s l n v x/\bW w w':=
  λi e w' h=>⟨_,_,h.1, .inr ⟨i,rfl,rfl⟩,h.2⟩
 by_cases a:18<=l/\l<=256
 .by_cases c:4<=n/\n<=1024
  .by_cases d:n%4=0
   .by_cases f:l+n / 4+6<=s/\s<=2048
    .exact(rb s l n w a.1 a.2 c.1 c.2 d f.1 f.2).mono (λe w' h=>⟨_,_,h.1, .inl ⟨⟨a,c,d,f⟩,rfl,rfl⟩,h.2⟩)
    .exact(Oi s l n w a.1 a.2 c.1 c.2 d f).mono (b (λg=>f g.2.2.2))
   .exact(Oh s l n w a.1 a.2 c.1 c.2 d).mono (b (λg=>d g.2.2.1))
  .exact(Og s l n w a.1 a.2 c).mono (b (λg=>c g.2.1))
 .exact(Of s l n w a).mono (b (λg=>a g.1))
end Go.Proofs.YtcpdggdfihjhoabGreat
