import Derived.Test.YtenlkgicpllbhaaGreatW01
import Derived.Test.YtenlkgicpllbhaaGreatW09
import Derived.Test.YtenlkgicpllbhaaGreatW10
import Derived.Test.YtenlkgicpllbhaaGreatW11
set_option maxRecDepth 20000
set_option maxHeartbeats 8000000
set_option linter.all false
namespace Go.Proofs.YtenlkgicpllbhaaGreat
open Go.Proofs.Tryz
open Go.RowKit Go.Maps
variable {ms ns:CM} {L:LG} {n:Nat} {Z:Nat->Prop} {w:World}
section
def TG.my (T:TG) (G:SG) (S:DS) (x:Int):Int×TG:=
 if T.state G S≠0 then (T.state G S,T) else if x=6\/x=50\/x=60\/x=61 then (x,{T with bad:=x}) else (1,T)
def TG.close (T:TG):TG:={T with puts:= [],ended:=true}
def TG.abort (T:TG) (G:SG) (S:DS):Int×TG×SG:=if T.bX G S≠0 then (T.bX G S,T,G) else (0,T.close,{G with busy:=false})
section
variable {w w':World} {F:Nat->Prop} {p s cR q l m t n:Nat} {S:DS} {G:SG} {T:TG}
theorem CG (h:ig w F p s cR q l m S G) (u:mx w F q l m t n G T) (x:Int):
  Calls prog 86 #[pQ t,iV x] w λe w'=>e= .returned (iV (T.my G S x).1)/\w'.heap[t]? =some (.cells (zK q n (T.my G S x).2) 98 (0,0))/\aa (λk=>k=t) w w':=by
 have i:=nI h u;have a:=u;unfold TG.my;generalize T.state G S=E at*;go_in;by_cases k:E=0
 .have d:(E != 0)=false:=by rw [k];rfl
  rw [aA (λh=>h k)];have b:∀(w1:World),bW w w1->(w1.setCell ⟨t,2,none⟩ (.int .i64 x)).heap[t]? =some (.cells (zK q n {T with bad:=x}) 98 (0,0))/\aa (λk=>k=t) w (w1.setCell ⟨t,2,none⟩ (.int .i64 x)):=λw1 aq=>
     ⟨(heap_setCell_same _ _ 2 _ _ _ (a.later aq).tx).trans (by simp [zK]),(aa.ah (λk=>k=t) aq).trans (aJ (F:=λk=>k=t) w1 rfl 2 _) (λ_ h=> .inl h)⟩
  by_cases r:x=6
  .subst r;rw [aE (.inl rfl)];go_wp2_with fail;refine bE i λw1 aq=>?_;have j:=(a.later aq).c2;have o:=ae (a.later aq).tx 2;go_wp2;go_ret;exact⟨rfl,b w1 aq⟩
  .have A:(x == 6)=false:=(by rw [eG];exact r);by_cases c:x=50
   .subst c;rw [aE (.inr (.inl rfl))];go_wp2_with fail;refine bE i λw1 aq=>?_;have j:=(a.later aq).c2;have o:=ae (a.later aq).tx 2;go_wp2;go_ret;exact⟨rfl,b w1 aq⟩
   .have v:(x == 50)=false:=(by rw [eG];exact c);by_cases f:x=60
    .subst f;rw [aE (.inr (.inr (.inl rfl)))];go_wp2_with fail;refine bE i λw1 aq=>?_;have j:=(a.later aq).c2;have o:=ae (a.later aq).tx 2;go_wp2;go_ret;exact⟨rfl,b w1 aq⟩
    .have y:(x == 60)=false:=(by rw [eG];exact f);by_cases g:x=61
     .subst g;rw [aE (.inr (.inr (.inr rfl)))];go_wp2_with fail;refine bE i λw1 aq=>?_;have j:=(a.later aq).c2;have o:=ae (a.later aq).tx 2;go_wp2;go_ret;exact⟨rfl,b w1 aq⟩
     .have z:(x == 61)=false:=(by rw [eG];exact g);rw [aA (λh=>h.elim r (λh=>h.elim c (λh=>h.elim f g)))];go_wp2_with fail;refine bE i λw1 aq=>?_;go_wp2;go_ret;exact⟨rfl,aF (a.later aq).tx (aa.ah (λk=>k=t) aq)⟩
 .have d:(E != 0)=true:=by rw [fT];exact k
  rw [aE k];go_wp2_with fail;refine bE i λw1 aq=>?_;go_wp2;go_ret;exact⟨rfl,aF (a.later aq).tx (aa.ah (λk=>k=t) aq)⟩
theorem Mj (h:mZ w q p l m G.y G.busy) (b:mx w F q l m t n G T):
  Calls prog 139 #[pQ t] w λe w'=>e= .returned (.tuple #[])/\w'.heap[t]? =some (.cells (zK q n T.close) 98 (0,0))/\Ch w' n []/\mZ w' q p l m G.y false/\aa (λk=>k=t\/k=n\/k=q) w w':=by
 obtain⟨a,Fr,nc,xJ,ef⟩:=b.ch.qB;have o:=b.c1;have g:=(xJ.block t (aw b.tx) (λe=>b.tn e)).trans b.tx;have s1:=h.au xJ (λe=>b.nq e.symm);have r:a.cell? (aD t 3)=some (.bool T.ended):=fI g;have v:=ae g 3;have c:q≠t:=λe=>b.tq e.symm;have i:(a.setCell ⟨t,3,none⟩ (.bool true)).heap[t]? =some (.cells #[.pointer (some ⟨q,0,none⟩), .map (some n), .int .i64 T.bad, .bool true] 98 (0,0)):=(heap_setCell_same _ _ 3 _ _ _ g).trans (by simp [zK]);have d:=aJ (F:=λk=>k=t) a rfl 3 (.bool true);have s2:=s1.au d c;have s:(a.setCell ⟨t,3,none⟩ (.bool true)).cell? (aD t 0)=some (pQ q):=aL i;have u:=s2.c8;have x:=ae s2 8;have f:=aJ (F:=λk=>k=q) (a.setCell ⟨t,3,none⟩ (.bool true)) rfl 8 (.bool false);have s3:mZ ((a.setCell ⟨t,3,none⟩ (.bool true)).setCell ⟨q,8,none⟩ (.bool false)) q p l m G.y false:=(heap_setCell_same _ _ 8 _ _ _ s2).trans (by simp [Pg]);have j:(((a.setCell ⟨t,3,none⟩ (.bool true)).setCell ⟨q,8,none⟩ (.bool false)).heap[t]? =some (.cells (zK q n T.close) 98 (0,0))/\Ch ((a.setCell ⟨t,3,none⟩ (.bool true)).setCell ⟨q,8,none⟩ (.bool false)) n []/\mZ ((a.setCell ⟨t,3,none⟩ (.bool true)).setCell ⟨q,8,none⟩ (.bool false)) q p l m G.y false/\aa (λk=>k=t\/k=n\/k=q) w ((a.setCell ⟨t,3,none⟩ (.bool true)).setCell ⟨q,8,none⟩ (.bool false))):=by
  refine⟨(f.block t (aw i) (λe=>c e.symm)).trans i,(nc.au d (λe=>b.tn e.symm)).au f b.nq,s3,?_⟩;exact((xJ.mono (λ_ e=> .inr (.inl e))).trans d (λ_ e=> .inl (.inl e))).trans f (λ_ e=> .inl (.inr (.inr e)))
 go_in;go_wp2
 go_end0
 exact⟨rfl,j⟩
theorem NU (h:ig w F p s cR q l m S G) (f:mx w F q l m t n G T):
  Calls prog 90 #[pQ t] w λe w'=>e= .returned (iV (T.abort G S).1)/\w'.heap[t]? =some (.cells (zK q n (T.abort G S).2.1) 98 (0,0))/\Ch w' n (T.abort G S).2.1.puts/\mZ w' q p l m G.y (T.abort G S).2.2.busy/\aa (λk=>k=t\/k=n\/k=q) w w':=by
 have c:=GC h f;have a:=f;have b:=h.st;unfold TG.abort;generalize T.bX G S=E at*;go_in;by_cases k:E=0
 .have d:(E != 0)=false:=by rw [k];rfl
  rw [aA (λh=>h k)];go_wp2_with fail;refine bE c λw1 aq=>?_;go_wp2_with fail;refine(Mj (b.later aq) (a.later aq)).mono ?_;rintro e r ⟨rfl,g,i,j,o⟩;go_wp2;go_ret;exact⟨rfl,(aF g (aF i (aF j ((aa.ah (λk=>k=t\/k=n\/k=q) aq).trans o (λ_ h=> .inl h)))))⟩
 .have d:(E != 0)=true:=by rw [fT];exact k
  rw [aE k];go_wp2_with fail;refine bE c λw1 aq=>?_;go_wp2;go_ret;exact⟨rfl,(aF (a.later aq).tx (aF (a.later aq).ch (aF (b.later aq) (aa.ah (λk=>k=t\/k=n\/k=q) aq))))⟩
def SG.begin (G:SG) (S:DS):Int:=if G.L.dead S=true then 3 else if G.busy=true then 5 else 0
def sD (w w':World) (q p l m:Nat) (y:LY) (busy:Bool) (code:Int) (e:Ending):Prop:=
 if code≠0 then e= .returned (.tuple #[.pointer none,iV code])/\mZ w' q p l m y busy/\bW w w'
 else∃t n,e= .returned (.tuple #[pQ t,iV 0])/\w.heap.size<=n/\w.heap.size<=t/\t≠n/\w'.heap[t]? =some (.cells (zK q n ⟨[],0,false⟩) 98 (0,0))/\Ch w' n []/\mZ w' q p l m y true/\aa (λk=>k=q) w w'
theorem sE (h:ig w F p s cR q l m S G):
  Calls prog 19 #[pQ q] w λe w'=>sD w w' q p l m G.y G.busy (G.begin S) e:=by
 have b:=h.dead;have f:=h.st;unfold SG.begin;go_in;cases hd:G.L.dead S
 .rw [hd] at b;rw [aA (by decide)];cases i:G.busy
  .rw [aA (by decide)];go_wp2_with fail;refine bE b λw1 aq=>?_;have ed:=f.later aq;rw [i] at ed;have o:=ed.c8;have t:=ae ed 8;have r:=aJ (F:=λk=>k=q) w1 rfl 8 (.bool true);have s3:mZ (w1.setCell ⟨q,8,none⟩ (.bool true)) q p l m G.y true:=(heap_setCell_same _ _ 8 _ _ _ ed).trans (by simp [Pg]);have j:(w1.setCell ⟨q,8,none⟩ (.bool true)).heap.size=w1.heap.size:=(by simp [World.setCell]);have ais:=aq.size;have g:=Ch.made (w1.setCell ⟨q,8,none⟩ (.bool true));rw [j] at g;obtain⟨a,Uh⟩:=bQ ((w1.setCell ⟨q,8,none⟩ (.bool true)).alloc (.map #[] 0));rw [<-Uh] at g;have c:Below (w1.setCell ⟨q,8,none⟩ (.bool true)).heap.size (w1.setCell ⟨q,8,none⟩ (.bool true)) a:=(by rw [Uh];exact aI _ _);have d:a.heap.size=w1.heap.size+1:=(by rw [Uh,World.size_alloc,j]);have lj:=aI a (.cells (zK q w1.heap.size ⟨[],0,false⟩) 98);have n:((a.alloc (.cells (zK q w1.heap.size ⟨[],0,false⟩) 98)).heap[w1.heap.size+1]? =some (.cells (zK q w1.heap.size ⟨[],0,false⟩) 98 (0,0))/\Ch (a.alloc (.cells (zK q w1.heap.size ⟨[],0,false⟩) 98)) w1.heap.size []/\mZ (a.alloc (.cells (zK q w1.heap.size ⟨[],0,false⟩) 98)) q p l m G.y true/\aa (λk=>k=q) w (a.alloc (.cells (zK q w1.heap.size ⟨[],0,false⟩) 98))):=by
    refine⟨by rw [<-d];exact heap_alloc_new _ _,g.later lj,(s3.later c).later lj,?_⟩;exact(((aa.ah (λk=>k=q) aq).trans r (λ_ h=> .inl h)).trans (aa.ah (λ_=>False) c) (λ_ h=>h.elim)).trans (aa.ah (λ_=>False) lj) (λ_ h=>h.elim)
   have BV:= @run_makeMap prog;go_wp2;rw [<-Uh];go_ret2;unfold sD;rw [aA (λh=>h rfl)];refine⟨w1.heap.size+1,w1.heap.size,?_,ais,by omega,by omega,n⟩;first|rfl|(rw [d];rfl)
  .rw [aE rfl];go_wp2_with fail;refine bE b λw1 aq=>?_;have ed:=f.later aq;rw [i] at ed;have o:=ed.c8;go_wp2;go_ret2;unfold sD;rw [aE (by decide)];exact⟨rfl,aF ed aq⟩
 .rw [hd] at b;rw [aE rfl];go_wp2_with fail;refine bE b λw1 aq=>?_;go_wp2;go_ret2;unfold sD;rw [aE (by decide)];exact⟨rfl,aF (f.later aq) aq⟩
end
end
section
def vk (w w':World) (code:Int) (c:List Int) (e:Ending):Prop:=
 if code≠0 then e= .returned (.tuple #[.slice none 0 0,iV code])
 else∃g,e= .returned (.tuple #[.slice (some (aD g 0)) 512 512,iV 0])/\w.heap.size<=g/\jX w' 101 g c
section
variable {w w':World} {F:Nat->Prop} {p s cR q l m t n:Nat} {S:DS} {G:SG} {T:TG}
theorem iK {b:Int} (h:T.refusal G S b=0):G.L.dead S=false/\T.ended=false/\T.bad=0/\0<=b/\b<(G.y.blocks:Int):=by
 unfold TG.refusal TG.state TG.bX at h;cases hd:G.L.dead S
 .cases c:T.ended
  .rw [hd,c] at h;simp only [Bool.false_eq_true,if_false,ne_eq,not_true_eq_false] at h;split at h
   .rename_i a;exact absurd h a
   .rename_i a;split at h
    .omega
    .refine⟨rfl,rfl,?_,by omega,by omega⟩;exact Decidable.byContradiction a
  .rw [hd,c] at h;simp at h
 .rw [hd] at h;simp at h
theorem vl (h:L.dead S=false):S.fuse≠0:=λe=>by
 unfold LG.dead at h;rw [show (S.fuse == 0)=true by rw [beq_iff_eq];exact e] at h;simp at h
theorem D5 (h:ig w F p s cR q l m S G) (f:mx w F q l m t n G T) (b:Int) (aT:S.puts.length+1<=4000000000000):
  Calls prog 20 #[pQ t,iV b] w λe w'=>vk w w' (T.refusal G S b) (T.jN G S b.toNat) e/\B.ax w' F p s S (cR+1)/\aa F w w':=by
 have h1:=zL h f b;go_in;by_cases k:T.refusal G S b=0
 .obtain⟨u,C,D,H,I⟩:=iK k;obtain⟨b,rfl⟩:∃b':Nat,b=(b':Int):=⟨b.toNat,by omega⟩;have r:b<G.y.blocks:=by omega
  have a:=zM h f b r;rw [k] at h1;obtain⟨x,z,j,Pf,Ff⟩:=ey h f k je (vl u);clear h f k u C D H I;go_wp2_with fail;refine bE h1 λw1 aq=>?_;have h2:=GD (x.later aq) (z.later aq) b r Ff aT;have g:=aq;have dr:=aq.size;unfold cV at h2;obtain⟨A,i⟩:=bQ (bs (T.jN G S b));rw [<-i] at h2;clear h1 aq;go_wp2_with fail;refine fk h2 λc cC aX=>?_;have bt:=eQ c a;have aU:=eJ a;have dI:=cB (T.jN G S b);rw [<-i] at bt aU dI;have pX:A.length=512:=by rw [i,bs,List.length_map,a]
  have bR:=all_oneCell_toArray dI;have dZ:=bt.2.2;have ec:=aX.size;have o:(jX ((c.alloc (.cells bh 101)).setCells c.heap.size 0 A) 101 c.heap.size (T.jN G S b)/\B.ax ((c.alloc (.cells bh 101)).setCells c.heap.size 0 A) F p s S (cR+1)/\aa F w ((c.alloc (.cells bh 101)).setCells c.heap.size 0 A)):=⟨bt.1,cC.later bt.2.1,((aa.ah F g).trans aX (λ_ h=> .inl h)).trans (aa.ah (λ_=>False) bt.2.1) (λ_ h=>h.elim)⟩;clear h2 cC aX bt dI i;generalize bh=Z at*;go_wp2_with (refine wpList_store_mid rfl 101 _ _ rfl c.heap.size 0 A.toArray rfl rfl ?h1 ?h2 bR ?_);case h1=>first|simpa using dZ|(rw [pX] at dZ;simpa using dZ)
  case h2=>simpa using aU
  go_ret2;refine⟨?_,o.2⟩;unfold vk;rw [aA (λh=>h j)];exact⟨c.heap.size,rfl,by omega,o.1⟩
 .have d:(T.refusal G S b != 0)=true:=by rw [fT];exact k
  have v:=h.d;have j:=k;clear h f k;generalize T.refusal G S b=E at*;go_wp2_with fail;refine bE h1 λw1 aq=>?_;have g:=aq;clear h1 aq;go_wp2;go_ret2;refine⟨?_,(v.later g).le (by omega),aa.ah F g⟩;unfold vk;rw [aE j];rfl
end
end
section
abbrev rsC (r kl:Nat) (y:LY) (pv:Value) (hm:Nat) (nv:Value):Array Value:= #[pQ r,pQ kl,iV (y.log:Int),iV (y.home:Int),iV (y.blocks:Int),iV (y.nodes:Int),iV (y.data:Int),pv,iV (hm:Int),nv]
def kX (w:World) (k r kl:Nat) (y:LY) (pv:Value) (hm:Nat) (nv:Value):Prop:=w.heap[k]? =some (.cells (rsC r kl y pv hm nv) 129 (0,0))
abbrev rtC (k:Nat) (tv:Value) (T:TG):Array Value:= #[pQ k,tv, .bool T.ended,iV T.bad]
def nf (w:World) (t k:Nat) (tv:Value) (T:TG):Prop:=w.heap[t]? =some (.cells (rtC k tv T) 136 (0,0))
section
variable {w w':World} {F X:Nat->Prop} {r s k kl t hm:Nat} {S:DS} {y:LY} {L:LG} {G:SG} {T:TG} {pv nv tv:Value} {ps us:List (Nat×List Int)}
theorem kX.lt (h:kX w k r kl y pv hm nv):k<w.heap.size:=aw h
theorem kX.au (h:kX w k r kl y pv hm nv) (a:aa Z w w') (b:¬Z k):kX w' k r kl y pv hm nv:=(a.block k h.lt b).trans h
theorem kX.later (h:kX w k r kl y pv hm nv) (a:bW w w'):kX w' k r kl y pv hm nv:=(a.block k h.lt).trans h
theorem kX.c0 (h:kX w k r kl y pv hm nv):w.cell? (aD k 0)=some (pQ r):=aL h
theorem kX.c1 (h:kX w k r kl y pv hm nv):w.cell? (aD k 1)=some (pQ kl):=bD h
theorem kX.c2 (h:kX w k r kl y pv hm nv):w.cell? (aD k 2)=some (iV (y.log:Int)):=bH h
theorem kX.c3 (h:kX w k r kl y pv hm nv):w.cell? (aD k 3)=some (iV (y.home:Int)):=fI h
theorem kX.c4 (h:kX w k r kl y pv hm nv):w.cell? (aD k 4)=some (iV (y.blocks:Int)):=gz h
theorem kX.c5 (h:kX w k r kl y pv hm nv):w.cell? (aD k 5)=some (iV (y.nodes:Int)):=rU h
theorem kX.c6 (h:kX w k r kl y pv hm nv):w.cell? (aD k 6)=some (iV (y.data:Int)):=wG h
theorem kX.c7 (h:kX w k r kl y pv hm nv):w.cell? (aD k 7)=some pv:=ri h
theorem kX.c8 (h:kX w k r kl y pv hm nv):w.cell? (aD k 8)=some (iV (hm:Int)):=Dg h
theorem kX.c9 (h:kX w k r kl y pv hm nv):w.cell? (aD k 9)=some nv:=ahp h
theorem kX.fz (h:kX w k r kl y pv hm nv) (j:Nat):w.frozen? (aD k j)=false:=ae h j
theorem nf.lt (h:nf w t k tv T):t<w.heap.size:=aw h
theorem nf.au (h:nf w t k tv T) (a:aa Z w w') (b:¬Z t):nf w' t k tv T:=(a.block t h.lt b).trans h
theorem nf.later (h:nf w t k tv T) (a:bW w w'):nf w' t k tv T:=(a.block t h.lt).trans h
theorem nf.c0 (h:nf w t k tv T):w.cell? (aD t 0)=some (pQ k):=aL h
theorem nf.c1 (h:nf w t k tv T):w.cell? (aD t 1)=some tv:=bD h
theorem nf.c2 (h:nf w t k tv T):w.cell? (aD t 2)=some (.bool T.ended):=bH h
theorem nf.c3 (h:nf w t k tv T):w.cell? (aD t 3)=some (iV T.bad):=fI h
theorem nf.fz (h:nf w t k tv T) (j:Nat):w.frozen? (aD t j)=false:=ae h j
structure iz (w:World) (F X:Nat->Prop) (r s:Nat) (S:DS) (k kl:Nat) (G:SG) (pv:Value) (ps:List (Nat×List Int)) (hm:Nat) (nv:Value):Prop where
 st:kX w k r kl G.y pv hm nv
 lp:cH w kl r G.L
 pl:Pl w X pv ps
 xk:X k
 xl:X kl
 fD:∀g,X g->¬F g
 lt:∀g,X g->g<w.heap.size
 lk:G.L.Ok s
 bg:G.L.begun=true
 hs:G.y.home+G.y.blocks<=s
 lh:G.L.f+2+G.L.n<=G.y.home
 ov:G.ov=CM.bX [] (ps.drop hm)
 hm:hm<=ps.length
 kb:∀x∈ps,x.1<G.y.blocks
 un:G.L.dead S=false->∀b,b<G.y.blocks->CM.get G.ov b=none->∀c,fnd ps b=some c->S.now (G.y.home+b)=c
structure nT (w:World) (X:Nat->Prop) (k t:Nat) (G:SG) (T:TG) (tv:Value) (us:List (Nat×List Int)):Prop where
 tx:nf w t k tv T
 xt:X t
 pl:Pl w X tv us
 nd:(us.map (·.1)).Nodup
 pu:T.ended=false->T.puts=CM.bX [] us
 kb:∀x∈us,x.1<G.y.blocks
 D6:us.length<=16
theorem iz.kne (h:iz w F X r s S k kl G pv ps hm nv):k≠kl:=λe=>by
 have a:=h.st;have b:=h.lp;unfold kX at a;unfold cH at b;rw [e,b] at a;simp at a
theorem iz.au (h:iz w F X r s S k kl G pv ps hm nv) (b:aa Z w w') (a:∀g,X g->¬Z g):iz w' F X r s S k kl G pv ps hm nv:=
   ⟨h.st.au b (a _ h.xk),h.lp.au b (a _ h.xl),h.pl.au b (λg e=>a _ (h.pl.row g e)) (λg _ _ d _=>a g d),h.xk,h.xl,h.fD,λg c=>iP (h.lt g c) b.size,h.lk,h.bg,h.hs,h.lh,h.ov,h.hm,h.kb,h.un⟩
theorem iz.later (h:iz w F X r s S k kl G pv ps hm nv) (a:bW w w'):iz w' F X r s S k kl G pv ps hm nv:=h.au (aa.ah (λ_=>False) a) (λ_ _ h=>h)
theorem nT.au (h:nT w X k t G T tv us) (b:aa Z w w') (a:∀g,X g->¬Z g):nT w' X k t G T tv us:=
   ⟨h.tx.au b (a _ h.xt),h.xt,h.pl.au b (λg e=>a _ (h.pl.row g e)) (λg _ _ c _=>a g c),h.nd,h.pu,h.kb,h.D6⟩
theorem nT.later (h:nT w X k t G T tv us) (a:bW w w'):nT w' X k t G T tv us:=h.au (aa.ah (λ_=>False) a) (λ_ _ h=>h)
theorem iz.block (h:iz w F X r s S k kl G pv ps hm nv) (hd:G.L.dead S=false) {b:Nat} (f:b<G.y.blocks):(fnd ps b).getD (S.now (G.y.home+b))=G.block S b:=by
 have a:CM.get G.ov b=fnd (ps.drop hm) b:=by rw [h.ov];exact gL _ _
 have e:fnd ps b=(fnd (ps.drop hm) b).or (fnd (ps.take hm) b):=by rw [<-lX,List.take_append_drop]
 unfold SG.block;rw [a];cases d:fnd (ps.drop hm) b with
 |some c=>rw [e,d];rfl
 |none=>
  cases g:fnd ps b with
  |none=>rfl
  |some c=>exact(h.un hd b f (by rw [a,d]) c g).symm
theorem sF (hd:aB w F r s S) (h:kX w k r kl y pv hm nv) (a:cH w kl r L):
  Calls prog 127 #[pQ k] w λe w'=>e= .returned (.bool (L.dead S))/\bW w w':=by
 have b:=h.c1;go_in;go_wp2_with fail;refine(vd hd a).mono ?_;rintro e w1 ⟨rfl,aq⟩;go_wp2;go_ret;exact⟨rfl,aq⟩
theorem j5 (hd:aB w F r s S) (h:iz w F X r s S k kl G pv ps hm nv) (b:nf w t k tv T):
  Calls prog 85 #[pQ t] w λe w'=>e= .returned (iV (T.state G S))/\bW w w':=by
 have a:=sF hd h.st h.lp;have f:=b.c0;unfold TG.state TG.bX;cases yq:G.L.dead S
 .rw [yq] at a;simp only [Bool.false_eq_true,if_false];cases d:T.ended
  .simp only [Bool.false_eq_true,if_false,ne_eq,not_true_eq_false];go_in;go_wp2_with fail;refine bE a λw1 aq=>?_;have c:=(b.later aq).c2;have g:=(b.later aq).c3;rw [d] at c;go_wp2;go_ret;exact⟨rfl,aq⟩
  .simp only [if_true,ne_eq,show¬(4:Int)=0 by decide,not_false_eq_true];go_in;go_wp2_with fail;refine bE a λw1 aq=>?_;have c:=(b.later aq).c2;rw [d] at c;go_wp2;go_ret;exact⟨rfl,aq⟩
 .rw [yq] at a;simp only [if_true,ne_eq,show¬(3:Int)=0 by decide,not_false_eq_true];go_in;go_wp2_with fail;refine bE a λw1 aq=>?_;go_wp2;go_ret;exact⟨rfl,aq⟩
theorem nf.bad (h:nf w t k tv T) (x:Int):nf (w.setCell ⟨t,3,none⟩ (.int .i64 x)) t k tv {T with bad:=x}:=
   (heap_setCell_same _ _ 3 _ _ _ h).trans (by simp)
theorem nf.end_ (h:nf w t k tv T):nf (w.setCell ⟨t,2,none⟩ (.bool true)) t k tv {T with ended:=true}:=
   (heap_setCell_same _ _ 2 _ _ _ h).trans (by simp)
theorem iz.ac8 (h:iz w F X r s S k kl G pv ps hm nv) (b:nf w t k tv T) (c:aa (λj=>j=t) w w'):iz w' F X r s S k kl G pv ps hm nv:=by
 refine⟨h.st.au c (λe=>?_),h.lp.au c (λe=>?_),h.pl.other b (by decide) (by decide) c,h.xk,h.xl,h.fD,λg d=>iP (h.lt g d) c.size,h.lk,h.bg,h.hs,h.lh,h.ov,h.hm,h.kb,h.un⟩
 .have a:=h.st;unfold kX at a;unfold nf at b;rw [e,b] at a;simp at a
 .have a:=h.lp;unfold cH at a;unfold nf at b;rw [e,b] at a;simp at a
end
end
section
section
variable {w w':World} {F X:Nat->Prop} {r s k kl t hm:Nat} {S:DS} {y:LY} {L:LG} {G:SG} {T:TG} {pv nv tv:Value} {ps us:List (Nat×List Int)}
theorem Kn (hd:aB w F r s S) (h:iz w F X r s S k kl G pv ps hm nv) (m:nf w t k tv T) (x:Int):
  Calls prog 87 #[pQ t,iV x] w λe w'=>e= .returned (iV (T.my G S x).1)/\nf w' t k tv (T.my G S x).2/\aa (λj=>j=t) w w':=by
 have f:=j5 hd h m;have i:=m;obtain⟨R,a⟩:=bQ (T.my G S x);rw [<-a];unfold TG.my at a;generalize T.state G S=E at*;clear h m hd;by_cases q:E=0
 .have d:(E != 0)=false:=by rw [q];rfl
  rw [aA (λh=>h q)] at a;clear q;by_cases b:x=6\/x=50\/x=60\/x=61
  .rw [aE b] at a;have g:=a;clear a;rcases b with rfl|rfl|rfl|rfl;all_goals
    go_in;go_wp2_with fail;refine bE f λw1 aq=>?_;have wh:=i.later aq;obtain⟨n,z,l,c⟩:=cM wh.c3 (wh.fz 3) wh aq;clear f aq wh;go_wp2;go_ret;rw [g];exact⟨rfl,l.bad _,(aa.ah _ c).trans (aa.setCell (F:=λj=>j=t) _ (p:=(aD t 3)) rfl _) (λ_ h=> .inl h)⟩
  .rw [aA b] at a;have g:=a;clear a;have o:(x != 6)=true:=(by rw [fT];intro e;exact b (.inl e));have u:(x != 50)=true:=(by rw [fT];intro e;exact b (.inr (.inl e)));have v:(x != 60)=true:=(by rw [fT];intro e;exact b (.inr (.inr (.inl e))));have y:(x != 61)=true:=(by rw [fT];intro e;exact b (.inr (.inr (.inr e))));clear b;go_in;go_wp2_with fail;refine bE f λw1 aq=>?_;have c:=aq;clear f aq;go_wp2;go_ret;rw [g];exact⟨rfl,i.later c,aa.ah _ c⟩
 .have d:(E != 0)=true:=by rw [fT];exact q
  rw [aE q] at a;have g:=a;clear q a;go_in;go_wp2_with fail;refine bE f λw1 aq=>?_;have c:=aq;clear f aq;go_wp2;go_ret;rw [g];exact⟨rfl,i.later c,aa.ah _ c⟩
theorem Ko (hd:aB w F r s S) (h:iz w F X r s S k kl G pv ps hm nv) (m:nf w t k tv T):
  Calls prog 91 #[pQ t] w λe w'=>e= .returned (iV (T.abort G S).1)/\nf w' t k tv (T.abort G S).2.1/\aa (λj=>j=t) w w':=by
 have b:=sF hd h.st h.lp;have n:=m.c0;have f:=m;obtain⟨R,a⟩:=bQ (T.abort G S);rw [<-a];unfold TG.abort TG.bX at a;clear h m hd;cases yq:G.L.dead S
 .rw [yq] at b a;simp only [Bool.false_eq_true,if_false] at a;cases g:T.ended
  .simp only [g,Bool.false_eq_true,if_false,ne_eq,not_true_eq_false] at a;have d:=a;clear a;go_in;go_wp2_with fail;refine bE b λw1 aq=>?_;have wh:=f.later aq;have l:=wh.c2;have o:=wh.fz 2;rw [g] at l;have i:=wh;have c:=aq;clear b aq wh;go_wp2;go_ret;rw [d];exact⟨rfl,i.end_,(aa.ah _ c).trans (aa.setCell (F:=λj=>j=t) _ (p:=(aD t 2)) rfl _) (λ_ h=> .inl h)⟩
  .simp only [g,if_true,ne_eq,show¬(4:Int)=0 by decide,not_false_eq_true] at a;have d:=a;clear a;go_in;go_wp2_with fail;refine bE b λw1 aq=>?_;have l:=(f.later aq).c2;rw [g] at l;have c:=aq;clear b aq;go_wp2;go_ret;rw [d];exact⟨rfl,f.later c,aa.ah _ c⟩
 .rw [yq] at b a;simp only [if_true,ne_eq,show¬(3:Int)=0 by decide,not_false_eq_true] at a;have d:=a;clear a;go_in;go_wp2_with fail;refine bE b λw1 aq=>?_;have c:=aq;clear b aq;go_wp2;go_ret;rw [d];exact⟨rfl,f.later c,aa.ah _ c⟩
def XC (w:World) (nv:Value) (busy:Bool):Prop:=(nv= .pointer none/\busy=false)\/∃t,nv=pQ t/\t<w.heap.size/\w.cell? (aD t 2)=some (.bool (!busy))
def xK (w w':World) (k r kl:Nat) (y:LY) (pv:Value) (hm:Nat) (nv:Value) (code:Int) (e:Ending):Prop:=
 if code≠0 then e= .returned (.tuple #[.pointer none,iV code])/\kX w' k r kl y pv hm nv/\bW w w'
 else∃t,e= .returned (.tuple #[pQ t,iV 0])/\w.heap.size<=t/\nf w' t k (.slice none 0 0) ⟨[],0,false⟩/\kX w' k r kl y pv hm (pQ t)/\aa (λj=>j=k) w w'
theorem kX.now (h:kX w k r kl y pv hm nv) (v:Value):kX (w.setCell ⟨k,9,none⟩ v) k r kl y pv hm v:=
   (heap_setCell_same _ _ 9 _ _ _ h).trans (by simp)
theorem iu (b:bW w w') {t j:Nat} (c:t<w.heap.size) {v:Value} (a:w.cell? (aD t j)=some v):w'.cell? (aD t j)=some v:=by
 have:=b.block t c;simp only [World.cell?] at a⊢;rw [this];exact a
theorem zN (hd:aB w F r s S) (h:kX w k r kl G.y pv hm nv) (n:cH w kl r G.L) (f:XC w nv G.busy):
  Calls prog 74 #[pQ k] w λe w'=>xK w w' k r kl G.y pv hm nv (G.begin S) e:=by
 have a:=sF hd h n;have d:=h;have mb:=h.lt;unfold xK SG.begin;clear h n hd;cases yq:G.L.dead S
 .rw [yq] at a;simp only [Bool.false_eq_true,if_false];cases m:G.busy
  .simp only [Bool.false_eq_true,if_false,ne_eq,not_true_eq_false];rw [m] at f;rcases f with ⟨rfl,_⟩|⟨t,rfl,i,c⟩
   .go_in;go_wp2_with fail;refine bE a λw1 aq=>?_;have ed:=d.later aq;have l:=ed.c9;have dr:=aq.size;have bo:=ed.later ((bi w1.heap.size w1).alloc (bP _) (.cells #[.pointer (some ⟨k,0,none⟩), .slice none 0 0, .bool false, .int .i64 0] 136));obtain⟨g,o,wR,b⟩:=cM bo.c9 (bo.fz 9) bo aq;clear a aq ed bo;go_wp2;go_ret2;refine⟨w1.heap.size,rfl,by omega,?_,wR.now _,((aa.ah _ b).trans (aa.alloc (λj=>j=k) w1 _) (λ_ h=> .inl h)).trans (aa.setCell (F:=λj=>j=k) _ (p:=(aD k 9)) rfl _) (λ_ h=> .inl h)⟩;exact(Below.heap_setCell _ _ _ _ (by show w1.heap.size≠k;omega)).trans (heap_alloc_new _ _)
   .go_in;go_wp2_with fail;refine bE a λw1 aq=>?_;have ed:=d.later aq;obtain⟨l,VD,dr,bo⟩:=cM ed.c9 (iu aq i c) aq.size (ed.later ((bi w1.heap.size w1).alloc (bP _) (.cells #[.pointer (some ⟨k,0,none⟩), .slice none 0 0, .bool false, .int .i64 0] 136)));obtain⟨g,o,wR,b⟩:=cM bo.c9 (bo.fz 9) bo aq;clear a aq ed bo c;go_wp2;go_ret2;refine⟨w1.heap.size,rfl,by omega,?_,wR.now _,((aa.ah _ b).trans (aa.alloc (λj=>j=k) w1 _) (λ_ h=> .inl h)).trans (aa.setCell (F:=λj=>j=k) _ (p:=(aD k 9)) rfl _) (λ_ h=> .inl h)⟩;exact(Below.heap_setCell _ _ _ _ (by show w1.heap.size≠k;omega)).trans (heap_alloc_new _ _)
  .simp only [if_true,ne_eq,show¬(5:Int)=0 by decide,not_false_eq_true];rw [m] at f;rcases f with ⟨_,h0⟩|⟨t,rfl,i,c⟩
   .cases h0
   .go_in;go_wp2_with fail;refine bE a λw1 aq=>?_;have ed:=d.later aq;obtain⟨l,VD,oN,b⟩:=cM ed.c9 (iu aq i c) ed aq;clear a aq ed c;go_wp2;go_ret2;exact⟨rfl,oN,b⟩
 .rw [yq] at a;simp only [if_true,ne_eq,show¬(3:Int)=0 by decide,not_false_eq_true];go_in;go_wp2_with fail;refine bE a λw1 aq=>?_;have oN:=(d.later aq);have b:=aq;clear a aq;go_wp2;go_ret2;exact⟨rfl,oN,b⟩
theorem Kp (hd:aB w F r s S) (h:iz w F X r s S k kl G pv ps hm nv) (aT:S.puts.length+1<=4000000000000):
  Calls prog 76 #[pQ k] w λe w'=>e= .returned (iV (G.L.sync S s).1)/\aB w' F r s (G.L.sync S s).2/\aa F w w':=by
 have b:=CE hd h.lp (h.fD _ h.xl) aT;have d:=h.st.c1;generalize G.L.sync S s=Z at*;go_in;go_wp2_with fail;refine oX b λw1 hd _ c=>?_;have a:=(aF hd c);go_wp2;go_ret;exact⟨rfl,a⟩
def Zs (w':World) (F X:Nat->Prop) (l:List Int) (e:Ending):Prop:=∃g c,e= .returned (.slice (some (aD g 0)) 512 c)/\(X g\/F g)/\ay w' 5 g c (bs l)
theorem zO (hd:aB w F r s S) (h:iz w F X r s S k kl G pv ps hm nv) (IR:G.L.dead S=false) (b:Nat) (D:b<G.y.blocks) (aT:S.puts.length<=4000000000000) (VE:ps.length<=4000000000000):
  Calls prog 135 #[pQ k,iV (b:Int)] w λe w'=>Zs w' F X (G.block S b) e/\bW w w':=by
 have d:=qN h.pl.pv b (by omega);have XB:=h.hs;have sb:=hd.ok.hi;obtain⟨f,kv,t,u,H,q⟩:=kQ (jF (hd.later (ai (bi w.heap.size w))) (G.y.home+b) (by omega) (by omega)) (h.block IR D) h.st.c0 h.st.c3 h.st.c7 Re;clear h hd;cases v:fnd ps b with
 |some l=>
  rw [v] at d kv;have a:=kv;clear kv f;go_in;go_wp2_with fail;refine d.mono ?_;rintro e w1 ⟨n,o⟩;subst o;rcases n with ⟨h0,_⟩|⟨E,g,c,m,rfl,C,i⟩
  .cases h0
  cases m;have z:=i;clear d i;go_wp2;go_ret;refine⟨⟨g,c,rfl, .inl C,?_⟩,bi _ _⟩;rw [<-a];exact z
 |none=>
  rw [v] at d kv;have a:=kv;clear kv;have tT:((G.y.home+b:Nat):Int)=(G.y.home:Int)+(b:Int):=by omega
  rw [tT] at f;go_in;go_wp2_with fail;refine d.mono ?_;rintro e w1 ⟨n,o⟩;subst o;rcases n with ⟨_,rfl⟩|⟨E,g,c,m,_⟩
  .have xL:IntKind.i64.wrap ((G.y.home:Int)+(b:Int))=(G.y.home:Int)+(b:Int):=(by rw [IntKind.wrap_i64];omega);rw [<-xL] at f;have x:=f;clear d f xL;go_wp2_with fail;clear q;go_region_held3 (λw'=>w'.cell? (aD k 0)=some (pQ r)/\w'.cell? (aD k 3)=some (iV (G.y.home:Int)))
    (first|exact⟨t,u⟩|exact p)
      ((go_at_call 40;refine x.mono ?_;rintro e j ⟨g,c,rfl,A,i,dw⟩;have p:j.cell? (aD k 0)=some (pQ r)/\j.cell? (aD k 3)=some (iV (G.y.home:Int)):=(by rw [dw];exact⟨t,u⟩);have fb:ay j 5 g c (bs (S.now (G.y.home+b))):=(by rw [dw];exact i);have aW:bW w1 j:=(by rw [dw];exact ai (bi _ _));clear dw i))
   go_wp2;go_ret;refine⟨⟨g,c,rfl, .inr A,?_⟩,aW⟩;rw [<-a];exact fb
  .cases m
end
end
theorem ve.meets {m:Nat} {D:DataW Value} (h:ve w m ms D) {x:Int} {ca:Array Value} {b:Lit} {y:DataW Value} {j:List MemPlace} (gF:keyOf prog 3 (iV x)=some b) (g:Ra (.agg ca)=some (y,j)) (ic:∀zd,D.atKey b zd=y):
  ∃(k:Nat) (c:List Int),x=(k:Int)/\b=kk k/\CM.get ms k=some c/\Value.agg ca=cV c:=by
 obtain⟨k,i,mb,f⟩:=h.met gF ic;obtain⟨c,d⟩:=Option.isSome_iff_exists.1 f;refine⟨k,c,i,mb,d,?_⟩;have a:=(h.MX k c d).2 (.held (.bool false));rw [<-mb,ic] at a;obtain⟨e,_⟩:=DZ g;rw [e] at a;exact tS a
theorem GE:prog.eqGuardType prog.depth 101=false:=by kernel_rfl
theorem RF (l m:List Int) (a:l.length=512) (b:m.length=512) (w:World) (x y:Operand):
    (do eqGuard .eql 101 x y (.agg (bs l).toArray) (.agg (bs m).toArray);binOp .eql 101 (.agg (bs l).toArray) (.agg (bs m).toArray)).run prog w= .ok (.bool (decide (l=m))) w:=by
 rw [Sem.run_bind,run_eqGuard_agg (P:=prog) w .eql 101 x y _ _ GE,Result.andThen_ok];show (binOp .eql 101 (.agg (bs l).toArray) (.agg (bs m).toArray)).run prog w=_;unfold binOp Op.equal Op.maxDepth;rw [Sem.run_bind,Jt 512 9998 101 l m a b w underlying101,Result.andThen_ok,Sem.run_pure]
theorem RG (l m:List Int) (a:l.length=512) (b:m.length=512) (w:World) (x y:Operand):
    (do eqGuard .neq 101 x y (.agg (bs l).toArray) (.agg (bs m).toArray);binOp .neq 101 (.agg (bs l).toArray) (.agg (bs m).toArray)).run prog w= .ok (.bool (!decide (l=m))) w:=by
 rw [Sem.run_bind,run_eqGuard_agg (P:=prog) w .neq 101 x y _ _ GE,Result.andThen_ok];show (binOp .neq 101 (.agg (bs l).toArray) (.agg (bs m).toArray)).run prog w=_;unfold binOp Op.equal Op.maxDepth;rw [Sem.run_bind,Jt 512 9998 101 l m a b w underlying101,Result.andThen_ok,Sem.run_pure]
theorem rJ {b:Array Oper} {rest:List Oper} {c:Oper} {a:Act} {Q:Exit->Act->World->Prop} (FQ:c.guard=none) (x y:Operand) (T:TypeId) (j:c.op= .binOp .eql 101 x y T)
    (A C:List Value) (l m:List Int) (d:A=bs l) (e:C=bs m) (n:a.eval x= .agg A.toArray) (o:a.eval y= .agg C.toArray) (g:l.length=512) (i:m.length=512) (v:Bool) (k:decide (l=m)=v)
    (h:wpList prog b Q rest (a.put c.dst (.bool v)) w):wpList prog b Q (c :: rest) a w:=
 wpList_plain FQ λK f=>by
  subst d e k;unfold Oper.wp execOp;simp only [j,n,o];have:=RF l m g i w x y;rw [Sem.run_bind,this];exact f _ _ h
theorem rK {b:Array Oper} {rest:List Oper} {c:Oper} {a:Act} {Q:Exit->Act->World->Prop} (FQ:c.guard=none) (x y:Operand) (T:TypeId) (j:c.op= .binOp .neq 101 x y T)
    (A C:List Value) (l m:List Int) (d:A=bs l) (e:C=bs m) (n:a.eval x= .agg A.toArray) (o:a.eval y= .agg C.toArray) (g:l.length=512) (i:m.length=512) (v:Bool) (k:(!decide (l=m))=v)
    (h:wpList prog b Q rest (a.put c.dst (.bool v)) w):wpList prog b Q (c :: rest) a w:=
 wpList_plain FQ λK f=>by
  subst d e k;unfold Oper.wp execOp;simp only [j,n,o];have:=RG l m g i w x y;rw [Sem.run_bind,this];exact f _ _ h
def TG.put (T:TG) (G:SG) (S:DS) (b:Int) (d:List Int):Int×TG:=
 if T.refusal G S b≠0 then (T.refusal G S b,T) else if d.length≠512 then (2,T) else if d=T.jN G S b.toNat then (0,T)
 else if (CM.get T.puts b.toNat).isSome=false/\T.puts.length=16 then (50,{T with bad:=50}) else (0,{T with puts:=CM.put T.puts b.toNat d})
section
def zP (w w':World) (F:Nat->Prop) (p s c q t n:Nat) (S:DS) (r:Int×TG) (e:Ending):Prop:=
 e= .returned (iV r.1)/\w'.heap[t]? =some (.cells (zK q n r.2) 98 (0,0))/\Ch w' n r.2.puts/\B.ax w' F p s S c/\aa (λk=>F k\/k=t\/k=n) w w'
theorem Kq (g:Option (List Int)) (a:∀c,g=some c->c.length=512):∃CL:List Value,acY g= .agg CL.toArray/\CL.length=512/\CL.toArray.all Value.oneCell'=true/\(prog.info? 101).map (·.size)=some CL.length:=by
 cases g with
 |none=>exact⟨bs (zs 512),rfl,by rw [bs,List.length_map,bB],all_oneCell_toArray (cB _),eJ (bB 512)⟩
 |some c=>exact⟨bs c,rfl,by rw [bs,List.length_map,a c rfl],all_oneCell_toArray (cB _),eJ (a c rfl)⟩
theorem D7 (w:World) {A:List Value} (a:A.length=512):bW w ((w.alloc (.cells bh 101)).setCells w.heap.size 0 A)/\(w.alloc (.cells bh 101)).there w.heap.size 0 A.length:=by
 have bN:(w.alloc (.cells bh 101)).heap[w.heap.size]? =some (.cells bh 101 (0,0)):=heap_alloc_new _ _;have bK:bW w (w.alloc (.cells bh 101)):=(bi _ w).alloc (bP _) _;refine⟨bK.trans ((aa.setCells (F:=λj=>j=w.heap.size) rfl A 0 _).below (λj b=>by omega) bK.size),?_⟩;rw [a];exact(cE bN cI)
section
variable {w w':World} {F:Nat->Prop} {p s cR q l m t n:Nat} {S:DS} {G:SG} {T:TG}
theorem VF (h:ig w F p s cR q l m S G) (W:mx w F q l m t n G T) (b:Int) (a:Option Addr) (x c:Nat) (d:List Int) (U:Src w a x d) (hx:x<=140737488355328) (wX:Bytes d) (aT:S.puts.length+1<=4000000000000):
  Calls prog 81 #[pQ t,iV b, .slice a x c] w λe w'=>zP w w' F p s (cR+1) q t n S (T.put G S b d) e:=by
 obtain⟨h1,HS,HT,Ui,HX⟩:=ey (zL h W b) (yh h) (yh W) U.1 (yh U);have wi:∀w1,bW w w1->∀z:Int,zP w w1 F p s (cR+1) q t n S (z,T) (.returned (iV z)):=λw1 aq z=>⟨rfl,(HT.o.later aq).tx,(HT.o.later aq).ch,(HS.o.d.later aq).le (by omega),aa.ah _ aq⟩;have XD:=yh wi;obtain⟨R,i⟩:=bQ (T.put G S b d);rw [<-i];unfold TG.put at i;go_in;go_wp2_with fail;by_cases k:T.refusal G S b=0
 .rw [aA (λh=>h k)] at i;obtain⟨r1,r2,r3,r4,r5⟩:=iK k;obtain⟨b,rfl⟩:∃b':Nat,b=(b':Int):=⟨b.toNat,by omega⟩;rw [k] at h1;rw [Int.toNat_natCast] at i;refine bE h1 λw1 aq=>?_;by_cases H:d.length=512
  .rw [aA (λh=>h H)] at i;have tU:=yh i;clear i;obtain rfl:x=512:=(by omega);obtain⟨b0,o0,rfl⟩:=cT U (by omega);have hb:b<G.y.blocks:=(by omega);obtain⟨f,Pf,Ff,hLt⟩:=cM (zM h W b hb) je (vl r1) h.d.lt;have ib:=yh hLt;have YV:=zH (some (aD b0 o0)) c;have aU:=eJ H;have dI:=cB d;obtain⟨A,hA⟩:=bQ (bs d);rw [<-hA] at aU dI;have pX:A.length=512:=(by rw [hA,bs,List.length_map,H]);have bR:=all_oneCell_toArray dI;have I:=yh hA;have HR:=yh (aF r1 (aF r2 r3));clear h W U wi k r1 r2 r3 r4 r5 dI hA hLt;have ada:w1.rangeAt b0 o0 A:=(by rw [I.o];exact lF (HX.o.later aq));have bt:=eQ w1 H;rw [<-I.o] at bt;have dZ:=bt.2.2;obtain⟨wB,VG⟩:=bQ ((w1.alloc (.cells bh 101)).setCells w1.heap.size 0 A);have Mk:bW w wB:=aq.trans (by rw [VG];exact bt.2.1.mono aq.size);have aZ:jX wB 101 w1.heap.size d:=(by rw [VG];exact bt.1);obtain⟨dr,h2,K,adb,HwB⟩:=ey aq.size (GD (HS.o.later Mk) (HT.o.later Mk) b hb Ff aT) (yh Mk) (yh aZ) (yh VG);clear h1 aq bt Mk aZ VG
   go_upto_region 7 with (first|refine wpList_load_mid rfl 101 _ rfl b0 o0 rfl A _ ada underlying101 rfl aU ?_|refine wpList_store_mid rfl 101 _ _ rfl w1.heap.size 0 A.toArray rfl rfl ?h1 ?h2 bR ?_)
   case h1=>first|simpa using dZ|(rw [pX] at dZ;simpa using dZ)
   case h2=>simpa using aU
   have aiw:=HwB.o;subst aiw;generalize NS:(w1.alloc (.cells bh 101)).setCells w1.heap.size 0 A=wB at*;clear NS ada dZ HwB YV;unfold cV at h2;obtain⟨C,hC⟩:=bQ (bs (T.jN G S b));rw [<-hC] at h2;have Z:=yh hC;clear hC;go_wp2_with fail;refine fk h2 λu cC aX=>?_;obtain⟨ec,hzB,bt,lQ,wj⟩:=ey aX.size adb.o.lt (eQ u f) (eJ f) (cB (T.jN G S b));rw [<-Z.o] at bt lQ wj;have hC5:C.length=512:=(by rw [Z.o,bs,List.length_map,f]);have GF:=all_oneCell_toArray wj;have dZ:=bt.2.2;have iQ:¬F w1.heap.size:=λhf=>by have:=ib.o _ hf;omega
   obtain⟨r,VH⟩:=bQ ((u.alloc (.cells bh 101)).setCells u.heap.size 0 C);have I4:bW u r:=(by rw [VH];exact bt.2.1);have CH:jX r 101 u.heap.size (T.jN G S b):=(by rw [VH];exact bt.1);have zQ:=(adb.o.au (aX.block _ hzB iQ)).au (I4.block _ (by omega));have raA:r.rangeAt w1.heap.size 0 A:=λj v O=>by
    have:=zQ.news j v (by rw [<-I.o];exact O);rwa [aK] at this
   have Q:r.rangeAt u.heap.size 0 C:=λj v O=>by
    have:=CH.news j v (by rw [<-Z.o];exact O);rwa [aK] at this
   have hsD:=((HS.o.later K.o).asked cC aX).later I4;have htD:=((HT.o.later K.o).asked aX).later I4;have XE:=yh (((aa.ah F K.o).trans aX (λ_ h=> .inl h)).trans (aa.ah (λ_=>False) I4) (λ_ h=>h.elim):aa F w r);obtain⟨HsD,g,N,Y,hzD⟩:=ey (yh hsD) (yh htD) (yh VH) (yh zQ) I4.size;clear h2 cC aX bt wj I4 CH zQ hsD htD VH;by_cases X:d=T.jN G S b
   .have dv:=decide_eq_true X;have Uj:=yh X;clear X;have Zt:=N.o;subst Zt;go_wp2_with (first|refine wpList_store_mid rfl 101 _ _ rfl u.heap.size 0 C.toArray rfl rfl ?h1 ?h2 GF ?_|refine wpList_load_mid rfl 101 _ rfl w1.heap.size 0 rfl A _ raA underlying101 rfl aU ?_|refine wpList_load_mid rfl 101 _ rfl u.heap.size 0 rfl C _ Q underlying101 rfl lQ ?_|refine rJ rfl _ _ _ rfl A C d (T.jN G S b) I.o Z.o rfl rfl H f true dv ?_);case h1=>first|simpa using dZ|(rw [hC5] at dZ;simpa using dZ)
    case h2=>simpa using lQ
    go_ret;rw [tU.o,aE Uj.o];exact⟨rfl,g.o.tx,g.o.ch,HsD.o.d,XE.o.mono (λ_ h=> .inl h)⟩
   .have dv:=decide_eq_false X;have Uj:=yh X;clear X;have Zt:=N.o;subst Zt
    go_upto_region 12 with (first|refine wpList_store_mid rfl 101 _ _ rfl u.heap.size 0 C.toArray rfl rfl ?h3 ?h4 GF ?_|refine wpList_load_mid rfl 101 _ rfl w1.heap.size 0 rfl A _ raA underlying101 rfl aU ?_|refine wpList_load_mid rfl 101 _ rfl u.heap.size 0 rfl C _ Q underlying101 rfl lQ ?_|refine rJ rfl _ _ _ rfl A C d (T.jN G S b) I.o Z.o rfl rfl H f false dv ?_)
    case h3=>first|simpa using dZ|(rw [hC5] at dZ;simpa using dZ)
    case h4=>simpa using lQ
    generalize NS:(u.alloc (.cells bh 101)).setCells u.heap.size 0 C=r at*;clear NS dZ N Q;have aW:b<2048:=(by have:=HS.o.hs;have:=HS.o.d.ok.hi;omega);have gG:=g.o.ch.look b aW;obtain⟨CL,hcv,adf,adg,Zu⟩:=Kq (CM.get T.puts b) (λc hc=>(g.o.ch.len _ (CM.get_mem hc)).2.1);rw [hcv] at gG;have bt:=D7 r adf;have dZ:=bt.2;have c1:=g.o.c1;obtain⟨J,P⟩:=bQ ((r.alloc (.cells bh 101)).setCells r.heap.size 0 CL);have D:bW r J:=(by rw [P];exact bt.1);obtain⟨M,Kr,XF,L,HwE⟩:=UE (HsD.o.later D) (g.o.later D) (XE.o.trans (aa.ah (λ_=>False) D) (λ_ h=>h.elim):aa F w J) (Y.o.au (D.block _ (aw Y.o)):jX J 101 w1.heap.size d) P;clear bt D P hcv
    go_upto_region 13 with (refine wpList_store_mid rfl 101 _ _ rfl r.heap.size 0 CL.toArray rfl rfl ?h5 ?h6 adg ?_)
    case h5=>first|simpa using dZ|(rw [adf] at dZ;simpa using dZ)
    case h6=>simpa using Zu
    have aiC:=HwE.o;subst aiC;generalize NS:(r.alloc (.cells bh 101)).setCells r.heap.size 0 CL=J at*;clear NS dZ HwE gG c1;have c1:=Kr.o.c1;have al2:=λty=>Kr.o.ch.length ty;by_cases Zv:(CM.get T.puts b).isSome=false/\T.puts.length=16
    .have ka:=Zv.1;have kb:((T.puts.length:Int) == 16)=true:=(by rw [beq_iff_eq];omega);have h3:=CG M.o Kr.o 50;have e3:T.my G S 50=(50,{T with bad:=50}):=by
      unfold TG.my TG.state TG.bX;rw [HR.o.1,HR.o.2.1,HR.o.2.2];simp
     rw [e3] at h3;have Cr:=yh Zv;clear Zv e3;go_wp2_with fail;refine fk h3 λw4 h4 h5=>?_;have HN:Yh (zP w w4 F p s (cR+1) q t n S (50,{T with bad:=50}) (.returned (iV 50))):=⟨rfl,h4,Kr.o.ch.au h5 (λe=>Kr.o.tn e.symm),M.o.d.au h5 (λk hk e=>Kr.o.nt (e▸hk)),(XF.o.mono (λ_ h=> .inl h)).trans h5 (λ_ e=> .inl (.inr (.inl e)))⟩;clear h3 h4 h5;go_wp2;go_ret;rw [tU.o,aA Uj.o,aE Cr.o];exact HN.o
    .have Zw:=Kr.o.ch.later (ai (bi _ _));obtain⟨wU,bC,nc,zR,NV⟩:=Zw.store b aW d H wX;have RH:(Instr.mapUpdate 93 (.map (some n)) (iV (b:Int)) (.agg A.toArray)).run prog J.drew= .ok () wU:=(by rw [I.o];exact bC);have raE:J.rangeAt w1.heap.size 0 A:=λj v O=>by
      have:=L.o.news j v (by rw [<-I.o];exact O);rwa [aK] at this
     have Ks:=(aa.ah (λk=>k=n) (ai (bi J.heap.size J))).trans zR (λ_ h=> .inl h);have HN:Yh (zP w wU F p s (cR+1) q t n S (0,{T with puts:=CM.put T.puts b d}) (.returned (iV 0))):=⟨rfl,(Ks.block t (aw Kr.o.tx) Kr.o.tn).trans Kr.o.tx,nc,M.o.d.au Ks (λk hk e=>Kr.o.nn (e▸hk)),(XF.o.mono (λ_ h=> .inl h)).trans Ks (λ_ e=> .inl (.inr (.inr e)))⟩;have Cr:=yh Zv;have HC1:=yh c1;have apd:=underlying101;have aiD:w1.heap.size≠n:=(by have:=HT.o.ch.lt;omega);have XG:=L.o.au (Ks.block _ (aw L.o) aiD);have Zx:Yh (wU.cell? (aD t 1)=some (.map (some n))/\wU.rangeAt w1.heap.size 0 A):=⟨bD ((Ks.block t (aw Kr.o.tx) Kr.o.tn).trans Kr.o.tx),λj v O=>by
      have:=XG.news j v (by rw [<-I.o];exact O);rwa [aK] at this⟩
     clear XG;cases hg:(CM.get T.puts b).isSome
     .have kb:((T.puts.length:Int) == 16)=false:=by
       rw [eG];intro e;exact Zv ⟨hg,by omega⟩
      clear Zv Zw bC nc zR Ks;go_wp2_with fail;go_region_held3 (λw'=>w'.cell? (aD t 1)=some (.map (some n))/\w'.rangeAt w1.heap.size 0 A) (first|exact⟨HC1.o,raE⟩|exact Zx.o) (fail);go_wp2;go_ret;rw [tU.o,aA Uj.o,aA Cr.o];exact HN.o
     .clear Zv Zw bC nc zR Ks;go_wp2_with fail;go_region_held3 (λw'=>w'.cell? (aD t 1)=some (.map (some n))/\w'.rangeAt w1.heap.size 0 A) (first|exact⟨HC1.o,raE⟩|exact Zx.o) (fail);go_wp2;go_ret;rw [tU.o,aA Uj.o,aA Cr.o];exact HN.o
  .rw [aE H] at i;have tU:=yh i;clear i;have dx:((x:Int) != 512)=true:=(by rw [fT];omega);clear h W U wi k r1 r2 r3 r4 r5 H;have HB:=yh aq;clear h1 aq;go_wp2;go_ret;rw [tU.o];exact XD.o _ HB.o 2
 .rw [aE k] at i;have tU:=yh i;clear i;have dk:(T.refusal G S b != 0)=true:=by rw [fT];exact k
  clear h W U wi k;generalize T.refusal G S b=E at*;refine bE h1 λw1 aq=>?_;have HB:=yh aq;clear h1 aq;go_wp2;go_ret;rw [tU.o];exact XD.o _ HB.o E
end
end
def Kt (ms ns X:CM) (left:Lit->Bool):Prop:=∀k,CM.get X k=if left (kk k)=false/\(CM.get ns k).isSome=true then CM.get ns k else CM.get ms k
theorem NW {m:Nat} {D:DataW Value} (h:Ch w m ms) (t:ve w n ns D) (q:m≠n):
  Calls prog 176 #[.map (some m), .map (some n)] w λe w'=>e= .returned (.tuple #[])/\Ch w' m (CM.bX ms ns)/\aa (λk=>k=m) w w':=by
 obtain⟨AY,Pf,H,i⟩:=cM h.lt je t h;clear h t;go_in;go_wp2_with (at_range;refine wpList_range_own _ rfl _ 93 rfl 3 101 fX underlying93 Ra n ns.length D rfl H.own ?_;intro w0 pg uD xZ;go_frame);have fo:=(bi _ w).grown uD (bP _) (λj b=>by cases b);clear uD;go_loopw [4] (λ_ wr=>∃(left:Lit->Bool) (iN:Nat) (X:CM),wr.ranges prog 3 Ra n w.heap.size ns.length D left iN/\Ch wr m X/\Kt ms ns X left/\aa (λk=>k=m) w wr/\w.heap.size+1<=wr.heap.size)
    (λ_ wr=>wr.rangeLeft n w.heap.size)
 case atStart=>
  refine⟨_,_,ms,pg,i.later fo,λk=>?_,aa.ah _ fo,by omega⟩;rw [aA];rintro ⟨h1,h2⟩;obtain⟨c,u⟩:=Option.isSome_iff_exists.1 h2;rw [(H.MX k c u).1] at h1;cases h1
 case round=>
  clear pg fo xZ;obtain⟨left,iN,X,mI,a,Pi,fP,ef⟩:=hrel;go_wp2_with (at_next;refine wpList_next_ranges _ rfl _ rfl 3 fX Ra (Value.int .i64) Value.agg (λy C gF=>by obtain⟨x,rfl,_⟩:=Maps.keyOf_int_inv underlying3 gF;exact⟨x,rfl⟩) Kg n w.heap.size ns.length _ _ _ rfl mI ?_ ?_)
  .intro _ vJ;have p:X=CM.bX ms ns:=by
    refine CM.ext a.ok (CM.qM i.ok ns) (λk=>?_);rw [Pi k,CM.Q6 i.ok k H.ok,vJ];cases E:CM.get ns k with
    |none=>simp
    |some c=>simp
   have l:=(aF (p▸a) fP);clear mI a Pi fP H i;go_wp2
   go_end0
   exact⟨rfl,l⟩
  .intro x ca C F I d ph gF x8 o ic oR bm fU bo IQ;obtain⟨k,c,rfl,rfl,XH,tk⟩:=H.meets gF o ic;have nH:=H.len _ (CM.get_mem XH);injection tk with tk;have bt:=eQ d nH.2.1;have aU:=eJ nH.2.1;have dI:=cB c;obtain⟨A,f⟩:=bQ (bs c);rw [<-f] at tk bt aU dI;have pX:A.length=512:=(by rw [f,bs,List.length_map,nH.2.1]);have bR:=all_oneCell_toArray dI;subst tk;have Ml:=a.agree (fU.block m a.lt (λe=>by injection e with e;omega));have adj:=fP.trans (G:=λj=>j=w.heap.size) ⟨fU.os,fU.tape,fU.output,fU.size,λj b dG=>fU.block j b (λe=>dG (by injection e))⟩ (λj e=> .inr (by omega));obtain⟨s,Fh⟩:=bQ ((d.alloc (.cells bh 101)).setCells d.heap.size 0 A);have dZ:=bt.2.2;have wg:bW d s:=(by rw [Fh];exact bt.2.1);have r:s.rangeAt d.heap.size 0 A:=λj v o=>by
    rw [Fh];have:=bt.1.news j v (by rw [<-f];exact o);rwa [aK] at this
   obtain⟨g,bC,nc,zR,NV⟩:=(Ml.later wg).store k nH.1 c nH.2.1 nH.2.2;have RH:(Instr.mapUpdate 93 (.map (some m)) (iV (k:Int)) (.agg A.toArray)).run prog s= .ok () g:=(by rw [f];exact bC);have adk:=(oR.kept (row:=none) ⟨wg.os,wg.tape,wg.output,wg.size,λj b _=>wg.block j b⟩ (λe=>by cases e) (λe=>by cases e)).kept (row:=some m) ⟨zR.os,zR.tape,zR.output,zR.size,λj b dG=>zR.block j b (λe=>dG (by rw [e]))⟩ (λe=>q (by injection e with e;exact e.symm)) (λe=>by injection e with e;omega);have RK:Kt ms ns (CM.put X k c) (λz=>left z && !z.sameKey (kk k)):=λj=>by
    show CM.get (CM.put X k c) j=if (left (kk j) && !(kk j).sameKey (kk k))=false/\(CM.get ns j).isSome=true then CM.get ns j else CM.get ms j;rw [CM.kr _ _ _ _ a.ok,Pi j,ln];by_cases e:j=k
    .subst e;simp [XH]
    .simp [e]
   have l:(g.ranges prog 3 Ra n w.heap.size ns.length D (λz=>left z && !z.sameKey (kk k)) ph/\Ch g m (CM.put X k c)/\Kt ms ns (CM.put X k c) (λz=>left z && !z.sameKey (kk k))/\aa (λk=>k=m) w g/\w.heap.size+1<=g.heap.size):=⟨adk,nc,RK,(adj.trans (aa.ah (λ_=>False) wg) (λ_ h=>h.elim)).trans zR (λ_ h=> .inl h),by have:=wg.size;omega⟩;have Zk:=Fh;clear gF o ic bo fU a Ml Pi RK fP adj adk bC nc zR NV wg f dI XH oR bt nH;subst Fh;generalize bh=Z at*;go_wp2_with (first|refine wpList_store_mid rfl 101 _ _ rfl d.heap.size 0 A.toArray rfl rfl ?h1 ?h2 bR ?_|refine wpList_load_mid rfl 101 _ rfl d.heap.size 0 rfl A _ r underlying101 rfl aU ?_);case h1=>first|simpa using dZ|(rw [pX] at dZ;simpa using dZ)
   go_roundw;case rel=>exact⟨_,ph,_,l⟩
   case measure=>rw [l.1.left_eq,mI.left_eq];exact bm
theorem CI {m:Nat} (h:Ch w m ms) (b:Ch w n ns) (a:m≠n):
  Calls prog 176 #[.map (some m), .map (some n)] w λe w'=>e= .returned (.tuple #[])/\Ch w' m (CM.bX ms ns)/\aa (λk=>k=m) w w':=by
 obtain⟨D,b⟩:=b;exact NW h b a
section
namespace B
section
variable {w:World} {F:Nat->Prop} {p s l cR:Nat} {S:DS} {L:LG}
theorem RL (h:ax w F p s S cR) (A:cQ w l p L) (a:L.Ok s) (m:¬F l) (cZ:S.fC) (aT:S.puts.length+3<=4000000000000):
  Calls prog 130 #[pQ l] w λe w'=>e= .returned (iV (L.trim S s).1)/\ax w' (more F w w') p s (L.trim S s).2.1 (cR+2)/\cQ w' l p (L.trim S s).2.2/\aa (λk=>F k\/k=l) w w':=by
 obtain⟨i,ib,bm,R,iQ⟩:=ey (zD h A m (by omega)) h.lt A.lt a.s a.n1;have x:=λ(M:(L.sync S s).1=0)=>a.hb (JR M);have v:=a.ep;have Q:=nA L S s;have adm:=pJ cZ L s;unfold LG.trim;generalize L.sync S s=Z at*;have D:=(λ(N:Z.1=0) b (cC:ax b F p s Z.2 cR)=>Kj cC L.f L.n L.ep L.head v (x N) (by omega) (by omega) (adm.now _) (adm.now _));by_cases c:Z.1=0
 .rw [aA (λh=>h c)];have J:(Z.1 == 0)=true:=by rw [beq_iff_eq];exact c
  have y:=(D c);by_cases C:L.tail=L.head
  .rw [aE C];have K:((L.tail:Int) == (L.head:Int))=true:=(by rw [beq_iff_eq];omega);go_in;go_wp2_with fail;refine oX i λw1 iB cm eH=>?_;have z:=cm.c6;have g:=cm.c7;go_wp2_with fail;go_quiet (fail);go_wp2;go_ret;exact⟨rfl,(λj=>aF (((iB.later (below_drewN (bi _ _) j)).more (w:=w)).le (by omega:cR<=cR+2)) (aF (cm.later (below_drewN (bi _ _) j)) ((eH.mono (λ_ h=> .inl h)).trans (aa.ah (λ_=>False) (below_drewN (bi w1.heap.size w1) j)) (λ_ h=>h.elim):aa (λk=>F k\/k=l) w (w1.drewN j)))) _⟩
  .rw [aA C];have K:((L.tail:Int) == (L.head:Int))=false:=(by rw [eG];omega);generalize P:cW Z.2 s L.f ((L.ep:Int)*4294967296+(L.head:Int))=Y at*;by_cases k:Y.1=0
   .rw [aA (λh=>h k)];have d:(Y.1 == 0)=true:=(by rw [beq_iff_eq];exact k);go_in;go_wp2_with fail;refine oX i λw1 iB cm eH=>?_;obtain⟨z,g,q,r,t,u⟩:=kQ cm.c6 cm.c7 cm.c0 cm.c1 cm.c2 cm.c5;go_wp2_with fail;go_quiet (fail);go_wp2_with fail;go_region_held3 (λw'=>w'.cell? (aD l 0)=some (pQ p)/\w'.cell? (aD l 1)=some (iV (L.f:Int))/\w'.cell? (aD l 2)=some (iV (L.n:Int))/\w'.cell? (aD l 5)=some (iV (L.ep:Int))/\w'.cell? (aD l 7)=some (iV (L.head:Int)))
     (first|exact⟨q,r,t,u,g⟩|exact⟨iR.c0,iR.c1,iR.c2,iR.c5,iR.c7⟩)
       ((go_at_call 105;refine(y _ (iB.later (below_drewN (bi _ _) (nq+1)))).mono ?_;rintro e b ⟨rfl,cC,aX⟩;have aV:=eH.trans (aa.ah (λ_=>False) (below_drewN (bi w1.heap.size w1) (nq+1))) (λ_ h=>h.elim);have gZ:=cm.later (below_drewN (bi w1.heap.size w1) (nq+1));have iR:=gZ.au aX m))
    generalize w1.drewN (nq+1)=o at*;obtain⟨kO,ec,O,H,I⟩:=ey aV.size aX.size (iR.fz 6) iR.c6 iR.c7;have dG:∀k,more F o b k->¬k=l:=λk a e=>by
     subst e;rcases a with a|a
     .exact m a
     .omega
    have ef:(b.setCell ⟨l,6,none⟩ (.int .i64 (L.head:Int))).heap.size=b.heap.size:=(by simp [World.setCell]);have E:=(aF (((cC.au (aJ (F:=λk=>k=l) b rfl 6 (iV (L.head:Int))) dG).mono (G:=more F w (b.setCell ⟨l,6,none⟩ (.int .i64 (L.head:Int)))) (λk a=>by
      rcases a with a|a
      .exact .inl a
      .exact .inr ⟨by omega,by rw [ef];exact a.2⟩) (cG (F:=F) (w:=w) ib (by rw [ef];omega)))) (aF iR.trimmed (((aV.mono (λ_ h=> .inl h):aa (λk=>F k\/k=l) w o).trans aX (λ_ h=> .inl (.inl h))).trans (aJ (F:=λk=>k=l) b rfl 6 (iV (L.head:Int))) (λ_ h=> .inl (.inr h)))))
    go_wp2;go_ret;exact⟨rfl,E⟩
   .rw [aE k];have d:(Y.1 == 0)=false:=(by rw [eG];exact k);go_in;go_wp2_with fail;refine oX i λw1 iB cm eH=>?_;obtain⟨z,g,q,r,t,u⟩:=kQ cm.c6 cm.c7 cm.c0 cm.c1 cm.c2 cm.c5;go_wp2_with fail;go_quiet (fail);go_wp2_with fail;go_region_held3 (λw'=>w'.cell? (aD l 0)=some (pQ p)/\w'.cell? (aD l 1)=some (iV (L.f:Int))/\w'.cell? (aD l 2)=some (iV (L.n:Int))/\w'.cell? (aD l 5)=some (iV (L.ep:Int))/\w'.cell? (aD l 7)=some (iV (L.head:Int)))
     (first|exact⟨q,r,t,u,g⟩|exact⟨iR.c0,iR.c1,iR.c2,iR.c5,iR.c7⟩)
       ((go_at_call 105;refine(y _ (iB.later (below_drewN (bi _ _) (nq+1)))).mono ?_;rintro e b ⟨rfl,cC,aX⟩;have aV:=eH.trans (aa.ah (λ_=>False) (below_drewN (bi w1.heap.size w1) (nq+1))) (λ_ h=>h.elim);have gZ:=cm.later (below_drewN (bi w1.heap.size w1) (nq+1));have iR:=gZ.au aX m))
    generalize w1.drewN (nq+1)=o at*;go_wp2;go_ret;exact⟨rfl,(aF (cC.from ib aV.size aX.size) (aF iR ((aV.mono (λ_ h=> .inl h):aa (λk=>F k\/k=l) w o).trans aX (λ_ h=> .inl (.inl h)))))⟩
 .rw [aE c];have J:(Z.1 == 0)=false:=by rw [eG];exact c
  go_in;go_wp2_with fail;refine oX i λw1 iB cm eH=>?_;go_wp2;go_ret;exact⟨rfl,aF ((iB.more (w:=w)).le (by omega:cR<=cR+2)) (aF cm (eH.mono (λ_ h=> .inl h):aa (λk=>F k\/k=l) w w1))⟩
end
end B
end
section
theorem j6 {S:DS} (b:S.fC) (s h:Nat):∀{ms:CM},(∀q∈ms,Bytes q.2)->(sbring S s h ms).2.fC:=λ{ms} c=>by
 induction ms generalizing S with
 |nil=>exact b
 |cons q f e=>
  rw [jt];have a:(S.wr s ((h+q.1:Nat):Int) 512 q.2).2.fC:=b.wr s _ _ (c q List.mem_cons_self);split
  .exact a
  .exact e a (λx d=>c x (List.mem_cons_of_mem _ d))
theorem D8 {s:Nat} (h:L.Ok s) (S:DS):(L.trim S s).2.2.Ok s/\(L.trim S s).2.2.begun=L.begun:=by
 unfold LG.trim;split
 .exact⟨h,rfl⟩
 .split
  .exact⟨h,rfl⟩
  .split
   .exact⟨h,rfl⟩
   .exact⟨⟨h.s,h.n1,h.n2,h.ep,h.top,bP _,Nat.le_add_right _ _,h.hi,h.hb⟩,rfl⟩
section
variable {w w':World} {F:Nat->Prop} {p s cR q l m t n:Nat} {S:DS} {G:SG} {T:TG}
theorem ig.GG {c':Nat} {S':DS} {a:LG} {Pj:CM} (h:ig w F p s cR q l m S G) (hd:B.ax w' (more F w w') p s S' c') (bt:mZ w' q p l m G.y G.busy) (b:cQ w' l p a) (nc:Ch w' m Pj) (x8:a.Ok s) (vm:a.begun=true) (oZ:∀x∈Pj,x.1<G.y.blocks):ig w' (more F w w') p s c' q l m S' {G with L:=a,ov:=Pj}:=by
 obtain⟨c,d,f⟩:=jw h.st.lt h.lp.lt h.ch.lt;exact⟨hd,bt,b,nc,λe=>e.elim h.nq (λe=>by omega),λe=>e.elim h.nl (λe=>by omega),λe=>e.elim h.nm (λe=>by omega),h.ql,h.qm,h.lm,x8,vm,h.hs,oZ⟩
theorem CJ (h:ig w F p s cR q l m S G) (cZ:S.fC) (aT:S.puts.length+4000<=4000000000000):
  Calls prog 77 #[pQ q] w λe w'=>e= .returned (iV (G.check S s).1)/\ig w' (more F w w') p s (cR+2) q l m (G.check S s).2.1 (G.check S s).2.2/\aa (λk=>F k\/k=l\/k=m) w w':=by
 obtain⟨I,N,t,km,M⟩:=ey (B.zD h.d h.lp h.nl (by omega)) (nA G.L S s) (pJ cZ G.L s) h.ch.small (eA (G.L.sync S s).2 s G.y.home G.ov);have r:=j6 t s G.y.home (λx g=>(h.ch.len x g).2.2);have Zy:=D8 h.lk (sbring (G.L.sync S s).2 s G.y.home G.ov).2;have XB:=h.hs;have J:=λ(w1:World) (iB:B.ax w1 F p s (G.L.sync S s).2 cR) (ed:mZ w1 q p l m G.y G.busy) (Jh:Ch w1 m G.ov)=>rG iB ed Jh h.nq h.nm (λx g=>by have:=h.kb x g;omega) (by omega);have K:=λ(w1:World) (z:Nat->Prop) (iB:B.ax w1 z p s (sbring (G.L.sync S s).2 s G.y.home G.ov).2 cR) (cm:cQ w1 l p G.L) (iQ:¬z l)=>B.RL iB cm h.lk iQ r (by omega);have U:=h.st.c1;have H:=h;obtain⟨R,b⟩:=bQ (G.check S s);rw [<-b];unfold SG.check at b;generalize G.L.sync S s=Z at*;generalize sbring Z.2 s G.y.home G.ov=Y at*;generalize G.L.trim Y.2 s=X at*;obtain⟨ib,A5,Kk,xw,Q,P,VI⟩:=nW h.d.lt h.ql h.qm h.lm h.st.lt h.lp.lt h.ch.lt;go_in;go_wp2_with fail;refine oX I λw1 iB cm eH=>?_;by_cases i:Z.1=0
 .have C:(Z.1 != 0)=false:=by rw [i];rfl
  rw [aA (λh=>h i)] at b;have dr:=eH.size;have ed:=H.st.au eH H.nq;have Jh:=H.ch.au eH H.nm;have O:=J w1 iB ed Jh;have oN:=(aF ed (aF Jh (aF cm eH)));go_wp2_with fail;refine fk O λc cC aX=>?_;obtain⟨ec,bo,BZ,fy,oU⟩:=ey aX.size (oN.1.au aX H.nq) (oN.2.1.au aX H.nm) (oN.2.2.1.au aX H.nl) (oN.2.2.2.trans aX (λ_ h=> .inl h));by_cases j:Y.1=0
  .have D:(Y.1 != 0)=false:=(by rw [j];rfl);rw [aA (λh=>h j)] at b;have mN:¬more F w1 c l:=λe=>e.elim H.nl (λe=>by omega);have hnq:¬more F w1 c q:=λe=>e.elim H.nq (λe=>by omega);have wP:¬more F w1 c m:=λe=>e.elim H.nm (λe=>by omega);have T:=K c (more F w1 c) cC fy mN;have A:=bo.c1;have wR:=(aF bo (aF BZ oU));go_wp2_with fail;refine oX T λo u gZ aV=>?_;have kO:=aV.size;have fB:=wR.1.au aV (λe=>e.elim hnq A5);have AZ:=wR.2.1.au aV (λe=>e.elim wP (λe=>xw e.symm));have pY:=u.mono (λk a=>by
    rcases a with (a|a)|a
    .exact .inl a
    .exact .inr ⟨by omega,by omega⟩
    .exact .inr ⟨by omega,a.2⟩) (cG (F:=F) (w:=w) ib (by omega))
   have adn:aa (λk=>F k\/k=l\/k=m) w o:=(wR.2.2.mono (λ_ h=> .inl h)).trans aV (λk a=>by
    rcases a with (a|a)|a
    .exact .inl (.inl a)
    .exact .inr (by omega)
    .exact .inl (.inr (.inl a)))
   by_cases n:X.1=0
   .have E:(X.1 != 0)=false:=(by rw [n];rfl);rw [aA (λh=>h n)] at b;obtain⟨v,Fr,nc,xJ,ef⟩:=AZ.qB;have W:=fB.c7;have f:(ig v (more F w v) p s (cR+2) q l m X.2.1 {G with L:=X.2.2,ov:= []}/\aa (λk=>F k\/k=l\/k=m) w v):=by
     refine⟨H.GG ((pY.au xJ (λk a e=>by
      subst e;exact a.elim H.nm (λh=>by omega))).mono (λk a=>a.elim .inl (λh=> .inr ⟨h.1,by omega⟩)) (cG (F:=F) (w:=w) ib (by omega))) (fB.au xJ Kk) (gZ.au xJ xw) nc Zy.1 (Zy.2.trans H.bg) (λx g=>by cases g),adn.trans xJ (λ_ e=> .inl (.inr (.inr e)))⟩
    go_wp2;go_ret;rw [b];exact⟨rfl,f⟩
   .have E:(X.1 != 0)=true:=(by rw [fT];exact n);rw [aE n] at b;have f:(ig o (more F w o) p s (cR+2) q l m X.2.1 {G with L:=X.2.2}/\aa (λk=>F k\/k=l\/k=m) w o):=⟨H.GG pY fB gZ AZ Zy.1 (Zy.2.trans H.bg) H.kb,adn⟩;go_wp2;go_ret;rw [b];exact⟨rfl,f⟩
  .have D:(Y.1 != 0)=true:=(by rw [fT];exact j);rw [aE j] at b;have f:(ig c (more F w c) p s (cR+2) q l m Y.2 G/\aa (λk=>F k\/k=l\/k=m) w c):=⟨H.GG ((cC.from ib dr ec).le (by omega)) bo fy BZ H.lk H.bg H.kb,oU.mono (λ_ h=> .inl h)⟩;go_wp2;go_ret;rw [b];exact⟨rfl,f⟩
 .have C:(Z.1 != 0)=true:=by rw [fT];exact i
  rw [aE i] at b;have f:(ig w1 (more F w w1) p s (cR+2) q l m Z.2 G/\aa (λk=>F k\/k=l\/k=m) w w1):=⟨H.GG (iB.more.le (by omega)) (H.st.au eH H.nq) cm (H.ch.au eH H.nm) H.lk H.bg H.kb,eH.mono (λ_ h=> .inl h)⟩;go_wp2;go_ret;rw [b];exact⟨rfl,f⟩
end
end
section
namespace B
def bS (w:World) (F:Nat->Prop) (p s:Nat) (S:DS) (m c:Nat):Prop:=∃r,gD w F p s (S.DO r) m/\Rb r c
section
variable {w w':World} {F G:Nat->Prop} {p s m c:Nat} {S:DS}
theorem bS.old (h:bS w F p s S m c):Go.Proofs.YtenlkgicpllbhaaGreat.bS w F p s S m:=by obtain⟨r,h,_⟩:=h;exact⟨r,h⟩
theorem bS.le {d:Nat} (h:bS w F p s S m c) (hd:c<=d):bS w F p s S m d:=by obtain⟨r,h,a⟩:=h;exact⟨r,h,a.le hd⟩
theorem bS.r (h:bS w F p s S m c):ax w F p s S c:=by obtain⟨r,h,a⟩:=h;exact⟨r,h.at,a⟩
theorem ax.Zz (h:ax w F p s S c):∃m,bS w F p s S m c:=by
 obtain⟨r,h,a⟩:=h;obtain⟨m,h⟩:=h.m;exact⟨m,r,h,a⟩
theorem bS.au (h:bS w F p s S m c) (k:aa G w w') (hd:∀k,F k->¬G k):bS w' F p s S m c:=by obtain⟨r,h,a⟩:=h;exact⟨r,h.au k hd,a⟩
theorem bS.later (h:bS w F p s S m c) (a:bW w w'):bS w' F p s S m c:=h.au (aa.ah (λ_=>False) a) (λ_ _ h=>h)
theorem bS.mono (h:bS w F p s S m c) (a:∀k,F k->G k) (b:∀k,G k->k<w.heap.size):bS w G p s S m c:=by obtain⟨r,h,d⟩:=h;exact⟨r,h.mono a b,d⟩
theorem ado (h:bS w F p s S m c) (k:Nat) (n:k<s) (aT:S.puts.length+1<=4000000000000) (l:S.fuse≠0):
  Calls prog 39 #[pQ p,iV (k:Int)] w λe w'=>∃g a,e= .returned (.tuple #[.slice (some (aD g 0)) 512 a,iV 0])/\w.heap.size<=g/\ay w' 5 g a (bs (S.now k))/\bS w' F p s S m (c+1)/\aa F w w':=by
 obtain⟨r,h,o⟩:=h;refine(Fv h k l n (by show S.puts.length<=_;omega)).mono ?_;rintro e w' ⟨g,a,b,d,f,i,j⟩;exact⟨g,a,b,d,f,⟨_,i,o.read⟩,j⟩
theorem ZA (h:bS w F p s S m c) (k:Nat) (b:k<s) (aT:S.puts.length+1<=4000000000000) (a:S.fuse≠0) (x:Addr) (d:Nat) (l:List Int) (n:Src w (some x) 512 l):
  Calls prog 51 #[pQ p,iV (k:Int), .slice (some x) 512 d] w λe w'=>e= .returned (iV 0)/\bS w' (more F w w') p s (S.wr s (k:Int) 512 l).2 m c/\aa F w w':=by
 obtain⟨r,h,j⟩:=h;refine(B3 h k b a (by show S.puts.length+1<=_;omega) x d l n).mono ?_;rintro e w' ⟨f,g,i⟩;refine⟨f,⟨r,?_,j⟩,i⟩;rw [oO a b];exact g
end
theorem VJ {w:World} {F:Nat->Prop} {p s m C:Nat} {S:DS} (h:bS w F p s S m C) (f n E P i c:Nat) (a:Option Addr) (x k:Nat) (l:List Int) (W:Src w a x l) (Ue:∀y,a=some y->0<x->¬F y.block) (hb:Bytes l) (hx:x<=492) (tk:a=none->k=0) (hn:1<=n) (hfn:f+2+n<=s) (aT:S.puts.length+2<=4000000000000):
  Calls prog 215 #[kw p f n,kW E P i c a x k] w λe w'=>e= .returned (iV (jM S s f n E P i c l).1)/\bS w' (more F w w') p s (jM S s f n E P i c l).2 m (C+1)/\aa F w w':=by
 obtain⟨Mb,dh,ib⟩:=jw h.r.ok.hi h.r.ok h.r.lt;have u:¬F w.heap.size:=λb=>by have:=h.r.lt _ b;omega
 have Dp:¬F (w.heap.size+1):=λb=>by have:=h.r.lt _ b;omega
 have M:=(aF u Dp);have apf:P%n<n:=Nat.mod_lt _ hn;have D:=iI w (.cells #[.pointer (some ⟨p,0,none⟩), .int .i64 f, .int .i64 n] 144) (.cells (eI E P i c a x k) 230);have Pk:((w.alloc (.cells #[.pointer (some ⟨p,0,none⟩), .int .i64 f, .int .i64 n] 144)).alloc (.cells (eI E P i c a x k) 230)).heap[w.heap.size]? =some (.cells #[.pointer (some ⟨p,0,none⟩), .int .i64 f, .int .i64 n] 144 (0,0)):=(Below.heap_alloc _ _ _ (by simp)).trans (heap_alloc_new _ _);have Pm:((w.alloc (.cells #[.pointer (some ⟨p,0,none⟩), .int .i64 f, .int .i64 n] 144)).alloc (.cells (eI E P i c a x k) 230)).heap[w.heap.size+1]? =some (.cells (eI E P i c a x k) 230 (0,0)):=by
  have:=heap_alloc_new (w.alloc (.cells #[.pointer (some ⟨p,0,none⟩), .int .i64 f, .int .i64 n] 144)) (.cells (eI E P i c a x k) 230);rwa [World.size_alloc] at this
 have b:=λwx=>LM p f n P wx (by omega) (by omega) (by omega) (by omega) (by omega);obtain⟨j,o,J,H,N,I⟩:=kQ D Pk Pm (h.later D) (W.later D) Ue;clear h D Pk Pm W u Dp Ue;unfold jM;go_in;by_cases q:S.fuse=0
 .rw [aE q];go_wp2_with fail;refine(b _).mono ?_;rintro e w1 ⟨rfl,aq⟩;have Pk:=(aq.block _ (by simp;omega)).trans o;have O:=aL Pk;have t:=ot (H.later aq).r ((f:Int)+2+(P:Int)%(n:Int)) q;have A:=(aF ((((H.later aq).mono (G:=more F w w1) (λ_ h=> .inl h) (cG ib (j.trans (aq.mono j.size)).size))).le (by omega:C<=C+1)) (aa.ah F (j.trans (aq.mono j.size))));clear b aq Pk;go_wp2_with fail;refine t.mono ?_;rintro e d ⟨rfl,rfl⟩;clear t;go_wp2;go_ret;exact⟨rfl,A⟩
 .rw [aA q];have mN:=br dh (f+2+P%n) (by omega);have hlx:=N.1;have l6:=so (old:=S.now (f+2+P%n)) (body:=kE E P i c l) mN (by rw [uW];omega);obtain⟨Y,L⟩:=bQ (gg (S.now (f+2+P%n)) (kE E P i c l));rw [<-L] at l6⊢;have Z:=L;clear L;have Q:(f:Int)+2+(P:Int)%(n:Int)=((f+2+P%n:Nat):Int):=by omega
  rw [Q] at b;clear Q;go_wp2_with fail;refine(b _).mono ?_;rintro e w1 ⟨rfl,aq⟩;have Pk:=(aq.block _ (by simp;omega)).trans o;have Pm:=(aq.block _ (by simp)).trans J;have O:=aL Pk;obtain⟨t,cN,oN,aiJ,aiK⟩:=ey (ado (H.later aq) (f+2+P%n) (by omega) (by omega) q) ((j.trans (aq.mono j.size))) ((N.later aq)) Pk Pm;clear b aq Pk Pm;go_wp2_with fail;refine t.mono ?_;rintro e d ⟨g,cg,rfl,hg,U,cC,aX⟩;have Pk:=ew aiJ aX M.1;have Pm:=ew aiK aX M.2;have q0:d.cell? ⟨w.heap.size+1,0,none⟩=some (iV (E:Int)):=aL Pm;have q1:d.cell? ⟨w.heap.size+1,1,none⟩=some (iV (P:Int)):=bD Pm;have q2:d.cell? ⟨w.heap.size+1,2,none⟩=some (iV (i:Int)):=bH Pm;have q3:d.cell? ⟨w.heap.size+1,3,none⟩=some (iV (c:Int)):=fI Pm;have q4:d.cell? ⟨w.heap.size+1,4,none⟩=some (.slice a x k):=gz Pm;have R:=QO E P i c a x k l d (oN.nB aX I) hx tk;have pi:=U.src;rw [mN] at pi;obtain⟨X,sj,gQ,adp⟩:=cM pi cC (((aa.ah F cN).trans aX (λ_ h=> .inl h))) Pk;clear t U pi cC aX Pk Pm;go_wp2_with fail;refine R.mono ?_;rintro e w3 ⟨v,rfl,Bu,bz⟩;obtain⟨a3,c3,rfl,fB,_,_⟩:=Bu.src;have K:=Qx (some (aD g 0)) 512 cg (S.now (f+2+P%n)) a3 _ c3 (kE E P i c l) w3 (X.later bz) fB (mt hb);rw [<-Z,l6.1] at K;have U9:=(sj.later bz);have ma:=(gQ.trans (aa.ah (λ_=>False) bz) (λ_ h=>h.elim));have adq:=((bz.block _ (aw adp)).trans adp);clear R Bu bz fB;go_wp2_with fail;refine K.mono ?_;rintro e w4 ⟨v4,rfl,⟨a4,c4,rfl,GH,_,_⟩,fe⟩;have O:=aL ((fe.block _ (aw adq)).trans adq);rw [l6.2] at GH⊢;obtain⟨b5,o5,rfl⟩:=cT GH (by omega);have T:=ZA (U9.later fe) (f+2+P%n) (by omega) (by omega) q (aD b5 o5) c4 Y.1 GH;have L0:=(ma.trans (aa.ah (λ_=>False) fe) (λ_ h=>h.elim));clear K fe GH;go_wp2_with fail;refine fk T λw5 jy dX=>?_;have vS:=L0.size;have qE:=dX.size;have A:=(aF ((jy.mono (G:=more F w w5) (λk z=>by
    rcases z with z|z
    .exact .inl z
    .exact .inr ⟨by omega,z.2⟩) (cG ib (by omega)))) (L0.trans dX (λ_ h=> .inl h)))
  clear T jy dX;go_wp2;go_ret;rw [(oO q (show f+2+P%n<s by omega) Y.1)] at A⊢;exact⟨rfl,A⟩
end B
end
section
namespace B
theorem bS.narrow {w:World} {F G:Nat->Prop} {p s:Nat} {S:DS} {m a:Nat} (h:bS w F p s S m a) (b:∀k,F k->(IsC w k\/k=m)->G k) (c:∀k,G k->k<w.heap.size):bS w G p s S m a:=by
 obtain⟨r,h,d⟩:=h;exact⟨r,h.narrow b c,d⟩
theorem bS.fm {w:World} {F:Nat->Prop} {p s:Nat} {S:DS} {m a:Nat} (h:bS w F p s S m a):F m:=h.old.fm
theorem bS.fc {w0 w w':World} {F:Nat->Prop} {B p s:Nat} {S:DS} {m b:Nat} (h:bS w' (more (FC F B m w) w w') p s S m b) (e:B<=w.heap.size) (c:w0=w0):bS w' (FC F B m w') p s S m b:=
 h.narrow (λk a d=>⟨by
  rcases a with a|a
  .exact a.1
  .exact .inr (by omega),d,h.r.lt k a⟩) (λ_ a=>a.2.2)
structure D9 (w W:World) (F:Nat->Prop) (l p s m M n0:Nat) (L:LG) (S:DS) (d:List Int) (xs:List Nat) (cR:Nat):Prop where
 ok:(rp L S s d xs).1=0
 dk:bS W (FC F n0 m W) p s (rp L S s d xs).2 m (cR+xs.length)
 mrk:W.heap[M]? =some (.cells #[.int .i64 (L.ep:Int), .int .i64 ((L.head+xs.length:Nat):Int), .int .i64 ((xs.length:Nat):Int), .int .i64 ((cY d.length:Nat):Int)] 228 (0,0))
 bx:gT W w.heap.size l
 kp:aa F w W
 sz:n0<=W.heap.size
structure GI (w W:World) (F:Nat->Prop) (p s m n0:Nat) (L:LG) (S:DS) (d:List Int) (xs:List Nat) (cR:Nat):Prop where
 no:(rp L S s d xs).1≠0
 dk:bS W (FC F n0 m W) p s (rp L S s d xs).2 m (cR+xs.length)
 er:W.heap[w.heap.size+1]? =some (.cells #[.int .i64 (rp L S s d xs).1] 49 (0,0))
 kp:aa F w W
 sz:n0<=W.heap.size
theorem bS.carry {W W':World} {F:Nat->Prop} {p s m f c:Nat} {S:DS} (h:bS W (FC F f m W) p s S m c) (e:ko W W') (g:W'.heap[m]? =W.heap[m]?) (j:W.heap.size<=W'.heap.size):bS W' (FC F f m W') p s S m c:=by
 obtain⟨r,h,i⟩:=h;refine⟨r,(h.agree j (λk a=>?_)).mono (λk a=>⟨a.1,?_,by have:=a.2.2;omega⟩) (λ_ a=>a.2.2),i⟩
 .rcases a.2.1 with ⟨cur,t,d,b⟩|rfl
  .rw [e _ _ _ _ b,b]
  .exact g
 .rcases a.2.1 with ⟨cur,t,d,b⟩|h
  .exact .inl ⟨cur,t,d,e _ _ _ _ b⟩
  .exact .inr h
section
variable {w W W':World} {F:Nat->Prop} {l p s m M n0 cR:Nat} {L:LG} {S:DS} {d:List Int} {xs:List Nat}
theorem D9.step (h:D9 w W F l p s m M n0 L S d xs cR) (a:ko W W') (e:W'.heap[m]? =W.heap[m]?) (b:W.heap.size<=W'.heap.size) (c:aa F w W'):D9 w W' F l p s m M n0 L S d xs cR:=
   ⟨h.ok,h.dk.carry a e b,a _ _ _ _ h.mrk,⟨a _ _ _ _ h.bx.1,a _ _ _ _ h.bx.2⟩,c,jQ h.sz b⟩
theorem GI.step (h:GI w W F p s m n0 L S d xs cR) (a:ko W W') (e:W'.heap[m]? =W.heap[m]?) (b:W.heap.size<=W'.heap.size) (c:aa F w W'):GI w W' F p s m n0 L S d xs cR:=
   ⟨h.no,h.dk.carry a e b,a _ _ _ _ h.er,c,jQ h.sz b⟩
theorem E0 (h:bS W (FC F n0 m W) p s S m cR):m<W.heap.size:=h.fm.2.2
theorem D9.grown {row:Option Nat} (h:D9 w W F l p s m M n0 L S d xs cR) (c:m<n0) (f:w.heap.size<=n0) (a:W.grownBy W' row) (b:∀r,row=some r->n0<=r/\∃o:Obj,W.heap[r]? =some o/\o.isCells=false):D9 w W' F l p s m M n0 L S d xs cR:=
 h.step (i6 a (λr e=>(b r e).2)) (a.block m (E0 h.dk) (λe=>by have:=(b m e.symm).1;omega)) a.size (h.kp.grown a (λr e=>by have:=(b r e).1;omega))
theorem GI.grown {row:Option Nat} (h:GI w W F p s m n0 L S d xs cR) (c:m<n0) (f:w.heap.size<=n0) (a:W.grownBy W' row) (b:∀r,row=some r->n0<=r/\∃o:Obj,W.heap[r]? =some o/\o.isCells=false):GI w W' F p s m n0 L S d xs cR:=
 h.step (i6 a (λr e=>(b r e).2)) (a.block m (E0 h.dk) (λe=>by have:=(b m e.symm).1;omega)) a.size (h.kp.grown a (λr e=>by have:=(b r e).1;omega))
end
theorem bS.E2 {W W':World} {F:Nat->Prop} {p s m c b d:Nat} {S:DS} (h:bS W (FC F c m W) p s S m d) (a:aa (λk=>k=b) W W') (f:¬FC F c m W b):bS W' (FC F c m W') p s S m d:=
   (h.au a (λk a e=>f (e▸a))).mono (λk xq=>⟨xq.1,by
  rcases xq.2.1 with ⟨cur,t,g,i⟩|h
  .exact .inl ⟨cur,t,g,(a.block k xq.2.2 (λe=>f (e▸xq))).trans i⟩
  .exact .inr h,by have:=xq.2.2;have:=a.size;omega⟩) (λ_ a=>a.2.2)
theorem Mm {w W:World} {F:Nat->Prop} {p s m b M l D c:Nat} {S:DS} {L:LG} {e:Int} (n:∀j,F j->j<w.heap.size) (hd:bS W (FC F b m W) p s S m c) (u:cQ W l p L) (a:aa (λk=>F k\/k=l) w W) (f:W.heap[w.heap.size+1]? =some (.cells #[.int .i64 e] 49 (0,0))) (g:W.heap[D]? =some (.deferred (some [])))
    (i:b<=D) (v:l<w.heap.size) (z:w.heap.size+2<=M) (o:M<b) (VI:m<w.heap.size):
    (W.putObj D (.deferred none)).cell? ⟨w.heap.size+1,0,none⟩=some (iV e)/\ax (W.putObj D (.deferred none)) (more F w (W.putObj D (.deferred none))) p s S c/\cQ (W.putObj D (.deferred none)) l p L/\aa (λk=>F k\/k=l) w (W.putObj D (.deferred none)):=by
 have ef:(W.putObj D (.deferred none)).heap.size=W.heap.size:=by simp [World.putObj]
 have mQ:aa (λk=>k=D) W (W.putObj D (.deferred none)):=⟨rfl,rfl,rfl,by omega,λk _ x=>World.putObj_heap_other x⟩;have q:=a.size;refine⟨aL ((mQ.block _ (aw f) (by omega)).trans f),?_,u.au mQ (by omega),a.trans mQ (λ_ h=> .inr (by omega))⟩;refine(hd.r.au mQ (λk a e=>?_)).mono (λk a=>?_) (λk a=>?_)
 .rcases a.2.1 with ⟨cur,t,y,d⟩|h
  .rw [e,g] at d;cases d
  .omega
 .rcases a.1 with h|h
  .exact .inl h
  .exact .inr ⟨by omega,by have:=a.2.2;omega⟩
 .rcases a with h|h
  .have:=n k h;omega
  .exact h.2
end B
end
end Go.Proofs.YtenlkgicpllbhaaGreat
