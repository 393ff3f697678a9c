import Derived.Test.YtkiehemoiapkkaaGreatW16
import Derived.Test.YtkiehemoiapkkaaGreatW22
import Derived.Test.YtkiehemoiapkkaaGreatW23
section
namespace Go.Proofs.YtkiehemoiapkkaaGreat
open Go.RowKit
section
variable {S S1 S2:DS} {s t:Nat} {ls:List LG} {L L':LG} {x y:Int}
theorem TellsAt.same {f n hd hd':Nat} {rs rs':List (List Int)} (h1:TellsAt S f n rs hd) (h2:TellsAt S f n rs' hd'):rs=rs'∧hd=hd':=Tells.unique h1.t h1.x h2.t h2.x
theorem start_err (hok:S.Ok s) (hl:L.Ok s) (hb:L.begun=false) (ha:L.life=S.life) (hn:S.num L.f<(L.top+1)*4294967296) (h0:(L.start S s).1≠0):(L.start S s).2.1.fuse=0∧(L.start S s).2.1.life=S.life∧(L.start S s).2.1.Ok s∧(L.start S s).2.1.puts.length≤S.puts.length+1:=by
 have hs:=hl.s
 have hn1:=hl.n1
 have htp:=hl.top
 unfold LG.start at h0⊢
 by_cases hd:L.dead S=true
 ·rw [if_pos hd]
  refine⟨?_,rfl,hok,by show S.puts.length≤_;omega⟩
  unfold LG.dead at hd
  rw [ha] at hd
  simpa using hd
 ·rw [if_neg hd,if_neg (by rw [hb];decide)] at h0⊢
  have eN:(((L.top+1:Nat):Int)*4294967296+((0:Nat):Int))=(((L.top+1)*4294967296:Nat):Int):=by omega
  rw [eN] at h0⊢
  by_cases h1:(anew S s L.f (((L.top+1)*4294967296:Nat):Int)).1≠0
  ·rw [if_pos h1]
   obtain⟨e1,e2⟩:=anew_err (by omega) (renew_ok (now_len hok L.f (by omega)) (now_len hok (L.f+1) (by omega)) (N:=(L.top+1)*4294967296) (by omega) hn) h1
   exact⟨e1,anew_life _ _ _ _,(anew_far hok (by omega) _).1,e2⟩
  ·rw [if_neg h1] at h0
   exact absurd rfl h0
theorem rdCons_512:∀{ks:List Nat} {l r:List Int} {cs:CM},rdCons ks l=some (cs,r)→∀q∈cs,q.2.length=512
 | [],l,r,cs,h=>by
  simp only [rdCons,Option.some.injEq,Prod.mk.injEq] at h
  obtain⟨rfl,_⟩:=h
  intro q hq
  cases hq
 |k :: ks,l,r,cs,h=>by
  rw [rdCons_cons] at h
  split at h
  ·cases h
  ·rename_i hl
   cases hr:rdCons ks (l.drop 512) with
   |none=>rw [hr] at h;cases h
   |some x=>
    rw [hr] at h
    simp only [Option.map_some,Option.some.injEq,Prod.mk.injEq] at h
    obtain⟨rfl,rfl⟩:=h
    intro q hq
    rcases List.mem_cons.1 hq with rfl|hq
    ·show (l.take 512).length=512
     rw [List.length_take];omega
    ·exact rdCons_512 (cs:=x.1) (r:=x.2) hr q hq
theorem rdRec_512 {blocks:Nat} {d:List Int} {cs:CM} (h:rdRec blocks d=some cs):∀q∈cs,q.1<blocks∧q.2.length=512:=fun q hq=>by
 refine⟨rdRec_keys h q hq,?_⟩
 unfold rdRec at h
 split at h
 ·cases h
 ·split at h
  ·cases hr:rdNums blocks (le (d.take 2)) 0 (d.drop 2) with
   |none=>rw [hr] at h;cases h
   |some x=>
    obtain⟨ks,r⟩:=x
    rw [hr] at h
    have h':rdTail (rdCons ks r)=some cs:=h
    cases hx:rdCons ks r with
    |none=>rw [hx] at h';cases h'
    |some y=>
     obtain⟨c2,r2⟩:=y
     rw [hx] at h'
     cases r2 with
     |nil=>
      simp only [rdTail,Option.some.injEq] at h'
      subst h'
      exact rdCons_512 hx q hq
     |cons a b=>cases h'
  ·cases h
theorem rdAll_512 {blocks:Nat}:∀{rs:List (List Int)} {ms ov:CM},rdAll blocks ms rs=some ov→(∀q∈ms,q.1<blocks∧q.2.length=512)→∀q∈ov,q.1<blocks∧q.2.length=512
 | [],ms,ov,h,hm=>by
  simp only [rdAll,Option.some.injEq] at h
  rw [←h];exact hm
 |r :: rs,ms,ov,h,hm=>by
  rw [rdAll_cons] at h
  cases hr:rdRec blocks r with
  |none=>rw [hr] at h;cases h
  |some cs=>
   rw [hr] at h
   exact rdAll_512 h (fun q hq=>(over_mem hq).elim (hm q) (rdRec_512 hr q))
theorem rdAll_ok {blocks:Nat}:∀{rs:List (List Int)} {ms ov:CM},rdAll blocks ms rs=some ov→CM.Ok ms→CM.Ok ov
 | [],ms,ov,h,hm=>by
  simp only [rdAll,Option.some.injEq] at h
  rw [←h];exact hm
 |r :: rs,ms,ov,h,hm=>by
  rw [rdAll_cons] at h
  cases hr:rdRec blocks r with
  |none=>rw [hr] at h;cases h
  |some cs=>
   rw [hr] at h
   exact rdAll_ok h (CM.over_ok hm cs)
theorem start_ok (hok:S.Ok s) (hl:L.Ok s):(L.start S s).2.1.Ok s:=by
 have hs:=hl.s
 have hn1:=hl.n1
 unfold LG.start
 split
 ·exact hok
 ·split
  ·exact hok
  ·split <;> exact(anew_far hok (by omega) _).1
theorem sredo_facts {y:LY} {ov:CM} {rs:List (List Int)} (hok:S.Ok s) (hp:S.puts= []) (hM:∀q∈ov,y.home+q.1<s∧q.2.length=512) (hl:ov.length≤2048) (hyh:3≤y.home) (hs3:3≤s):(sredo S s y ov rs).2.Ok s∧(sredo S s y ov rs).2.life=S.life∧((sredo S s y ov rs).1≠0→(sredo S s y ov rs).2.fuse=0)∧((sredo S s y ov rs).1=0→(sredo S s y ov rs).2.puts= [])∧(sredo S s y ov rs).2.puts.length≤3000∧∀i,i<3→(sredo S s y ov rs).2.now i=S.now i:=by
 obtain⟨b1,b2,b3,b4,b5⟩:=sbring_facts (h0:=y.home) (ms:=ov) hok hM
 have hbp:=sbring_puts S s y.home ov
 rw [hp] at hbp
 have hbp':(sbring S s y.home ov).2.puts.length≤2048:=by simp at hbp;omega
 unfold sredo
 split
 ·exact⟨hok,rfl,fun h=>absurd rfl h,fun _=>hp,by show S.puts.length≤3000;rw [hp];exact Nat.zero_le _,fun _ _=>rfl⟩
 ·split
  ·rename_i q
   exact⟨b3,b2,b4,fun h=>absurd h q,by omega,fun i hi=>b5 i (fun q hq e=>by omega)⟩
  ·obtain⟨c1,c2,c3,c4⟩:=fl_facts b3
   have:=fl_putsS (sbring S s y.home ov).2 s
   exact⟨c1,c2.trans b2,fun he=>(c3 he).1,c4,by omega,fun i hi=>(fl_now b3 (by omega)).trans (b5 i (fun q hq e=>by omega))⟩
theorem V.Inv.sopen (h:V.Inv S s ls t) (ht:t+2≤1000000000000000000) (ho:SOut S s x S1):(x≠0→V.Inv S1 s ls (t+1))∧(x=0→∀L,SLog S s L→V.Inv S1 s (ls ++ [L]) (t+1)):=by
 rcases ho with ⟨_,n1,rfl⟩|⟨hsup,hf,k⟩
 ·exact⟨fun _=>h.step,fun h0=>absurd h0 n1⟩
 ·rcases k with ⟨e1,m1,rfl⟩|⟨z1,rs,hd,hta,k⟩
  ·exact⟨fun _=>h.open_no (by omega) _ _ (by rw [e1];exact m1),fun h0=>absurd h0 m1⟩
  ·have hgeo:=stOpen_geo hsup
   obtain⟨y,hy⟩:∃y,y=lyOf (S.now 0):=⟨_,rfl⟩
   have hyh:3≤y.home:=by rw [hy];show 3≤3+u32 (S.now 0) 12;omega
   unfold SLog
   rw [←hy] at hgeo z1 hta k⊢
   obtain⟨hlz1,hlz2,hlz3,hlz4⟩:=lopen_zero (f:=1) z1
   obtain⟨hrn,hrb,hh1,hh2⟩:=hta.small h.byt (by omega)
   have hlok:=lgOf_ok (s:=s) hta h.byt hlz2 hlz3 (by omega) (by omega) (by omega)
   have hwl:=wrap_life h.l0 h.lt (by omega:t≤1000000000000000000)
   have htk:S.take.Ok s:=⟨h.ok.len,h.ok.lo,h.ok.hi,h.ok.puts,h.ok.fuse⟩
   have hlo:lopen S s 1 (y.log:Int)=S.take.fl s:=hlz4
   have hz9:(S.take.fl s).1=0:=by rw [←hlo];exact z1
   have hp1:=fl_zero hz9
   have hok1:=fl_ok (s:=s) htk
   have hby1:=h.byt.take.fl s
   have hl1:(S.take.fl s).2.life=S.life+1:=(fl_life _ _).trans hwl
   have hn1:∀i,i<s→(S.take.fl s).2.now i=S.now i:=fun i hi=>fl_now (S:=S.take) htk hi
   have hnt:S.num 1<((lgOf S 1 y.log hd).top+1)*4294967296:=num_top hlz2
   have hlgl:(lgOf S 1 y.log hd).life=S.life+1:=hwl
   have hno:∀M∈ls,M.life<S.life+1:=fun M hM=>by have:=(h.ol M hM).2;omega
   have hopd:=h.opened (by omega:t≤1000000000000000000) 1 (y.log:Int) (by rw [hlo];exact hok1) z1 (hd:=hd) hh1 (by simpa using hh2)
   rw [hlo] at k hopd⊢
   have hbase:=h.next hok1 hby1 (by rw [hp1];exact Nat.zero_le _) (fun _=>by rw [hp1];exact Nat.zero_le _) hl1
   have hopd':V.Inv (S.take.fl s).2 s (ls ++ [lgOf S 1 y.log hd]) (t+1):=hopd
   generalize S.take.fl s=P at*
   have hnoP:∀M∈ls,M.life<P.2.life:=by rw [hl1];exact hno
   rcases k with ⟨a1,rfl,rfl⟩|⟨ov,hov,k⟩
   ·exact⟨fun _=>hbase,fun h0=>absurd h0 (by decide)⟩
   ·have h512:=rdAll_512 hov (fun q hq=>by cases hq)
    have hMk:∀q∈ov,y.home+q.1<s∧q.2.length=512:=fun q hq=>⟨by have:=(h512 q hq).1;omega,(h512 q hq).2⟩
    have hovl:ov.length≤2048:=by
     have:=h.ok.hi
     rcases CM.length_le (n:=2048) (rdAll_ok hov nilOk) (fun q hq=>by have:=(hMk q hq).1;omega) 0 (fun _ _=>Nat.zero_le _) with h1|h1
     ·omega
     ·rw [h1];simp
    obtain⟨r1,r2,r3,r4,r5,r6⟩:=sredo_facts (rs:=rs) hok1 hp1 hMk hovl hyh (by omega)
    have hrb2:=sredo_byt (s:=s) (y:=y) (rs:=rs) hby1 (rdAll_bytes hov (fun x hx=>by cases hx) (fun r hr=>(hrb r hr).1))
    have hlogs:∀L,(∃rs' hd' ov',TellsAt S 1 y.log rs' hd'∧rdAll y.blocks [] rs'=some ov'∧L=((lgOf S 1 y.log hd').start (sredo P.2 s y ov' rs').2 s).2.2)→L=((lgOf S 1 y.log hd).start (sredo P.2 s y ov rs).2 s).2.2:=fun L hL=>by
     obtain⟨rs',hd',ov',t2,o2,rfl⟩:=hL
     obtain⟨rfl,rfl⟩:=hta.same t2
     obtain rfl:ov=ov':=Option.some.inj (hov.symm.trans o2)
     rfl
    generalize sredo P.2 s y ov rs=Rd at*
    have hidle:=hbase.idle hnoP r1 hrb2 (by omega) (fun hf2=>by
     by_cases q:Rd.1=0
     ·rw [r4 q];exact Nat.zero_le _
     ·exact absurd (r3 q) hf2) r2
    have hnumR:Rd.2.num (lgOf S 1 y.log hd).f<((lgOf S 1 y.log hd).top+1)*4294967296:=by
     show Rd.2.num 1<_
     rw [num_eq (S:=S) (S':=Rd.2) ((r6 1 (by omega)).trans (hn1 1 (by omega))) ((r6 2 (by omega)).trans (hn1 2 (by omega)))]
     exact hnt
    have hlal:(lgOf S 1 y.log hd).life=Rd.2.life:=by rw [hlgl,r2,hl1]
    rcases k with ⟨rfl,m2,rfl⟩|⟨m1,rfl,rfl⟩
    ·exact⟨fun _=>hidle,fun h0=>absurd h0 m2⟩
    ·have hstb:((lgOf S 1 y.log hd).start Rd.2 s).2.1.Byt:=by
      unfold LG.start
      split
      ·exact hrb2
      ·split
       ·exact hrb2
       ·split <;> exact hrb2.anew s _ _
     refine⟨fun hx=>?_,fun _ L hL=>?_⟩
     ·obtain⟨e1,e2,e3,e4⟩:=start_err r1 hlok rfl hlal hnumR hx
      exact hidle.idle (by rw [r2];exact hnoP) e3 hstb (by omega) (fun c=>absurd e1 c) e2
     ·rw [hlogs L hL]
      have hi:(ls ++ [lgOf S 1 y.log hd])[ls.length]? =some (lgOf S 1 y.log hd):=by simp
      have h2:=hopd'.on hi (by rw [hlgl,hl1]) r1 hrb2 r2 (by omega) hlok rfl (fun _=>⟨fun c=>(by cases c),fun _=>⟨by rw [r4 m1];rfl,hnumR⟩⟩)
      have hset:(ls ++ [lgOf S 1 y.log hd]).set ls.length (lgOf S 1 y.log hd)=ls ++ [lgOf S 1 y.log hd]:=by simp
      rw [hset] at h2
      have h3:=h2.start hi (start_ok r1 hlok)
      have hset2:(ls ++ [lgOf S 1 y.log hd]).set ls.length ((lgOf S 1 y.log hd).start Rd.2 s).2.2=ls ++ [((lgOf S 1 y.log hd).start Rd.2 s).2.2]:=by simp
      rw [hset2] at h3
      exact h3
end
end Go.Proofs.YtkiehemoiapkkaaGreat
end
section
namespace Go.Proofs.YtkiehemoiapkkaaGreat
open Go.RowKit Go.Maps
section
variable {w w':World} {F:Nat→Prop} {p r s c:Nat} {S S':DS} {L:LG} {x:Int}
def StOpened5 (w:World) (F:Nat→Prop) (p s c:Nat) (S:DS) (e:Ending) (w':World):Prop:=∃x S' cR,cR≤c+261∧SOut S s x S'∧Keeps F w w'∧((x≠0∧e= .returned (.tuple #[.pointer none, .int .i64 x])∧B.DiskR w' (more F w w') p s S' cR)∨(x=0∧∃q l m L F',SLog S s L∧e= .returned (.tuple #[.pointer (some ⟨q,0,none⟩), .int .i64 0])∧(∀k,F' k→more F w w' k)∧w.heap.size≤q∧w.heap.size≤l∧w.heap.size≤m∧StW w' F' p s cR q l m S' ⟨lyOf (S.now 0),L, [],false⟩))
theorem stOpen_any (h:B.DiskR w F p s S c) (hby:S.Byt) (hbig:S.puts.length+6000≤4000000000000):
  Calls Tryz.prog 19 #[.pointer (some ⟨p,0,none⟩)] w fun e w'=>StOpened5 w F p s c S e w':=by
 by_cases hno:S.fuse=0∨¬SupAt (S.now 0) s
 ·have hx0:∀x,SOut S s x S→x≠0:=fun x ho e=>by
   rcases ho with ⟨_,n,_⟩|⟨a,b,_⟩
   ·exact n e
   ·exact hno.elim b (fun h=>h a)
  refine(stOpen_no h hby (by omega) hno).mono ?_
  rintro e w' ⟨x,rfl,h1,h2,h3⟩
  exact⟨x,S,c+1,by omega,h1,h3, .inl ⟨hx0 x h1,rfl,h2.more⟩⟩
 ·have hsup:=Classical.byContradiction (fun e=>hno (.inr e))
  refine(stOpen_ok h hby hbig (fun e=>hno (.inl e)) hsup).mono ?_
  rintro e w' ⟨x,S',cR,h1,h2⟩
  exact⟨x,S',cR,by have:=stOpen_geo hsup;omega,h2⟩
theorem sbring_lf {home:Nat}:∀{ms:CM} {S:DS},(sbring S s home ms).2.life=S.life
 | [],_=>rfl
 |q :: qs,S=>by
  have h1:=wr_life S s ((home+q.1:Nat):Int) 512 q.2
  unfold sbring
  split
  ·exact h1
  ·exact sbring_lf.trans h1
theorem lopen_lf (S:DS) (s:Nat) (f n:Int):(lopen S s f n).2=S∨(lopen S s f n).2.life=wrap64 (S.life+1):=by
 unfold lopen
 split
 ·exact .inl rfl
 ·split
  ·exact .inr rfl
  ·split
   ·exact .inr rfl
   ·exact .inr (fl_life _ _)
theorem sredo_lf {y:LY} {ov:CM} {rs:List (List Int)}:(sredo S s y ov rs).2.life=S.life:=by
 unfold sredo
 split
 ·rfl
 ·split
  ·exact sbring_lf
  ·exact(fl_life _ _).trans sbring_lf
theorem start_lf:(L.start S s).2.1.life=S.life:=by
 unfold LG.start
 split
 ·rfl
 ·split
  ·rfl
  ·split <;> exact anew_life _ _ _ _
theorem SOut.life (h:SOut S s x S'):(S'=S∧x≠0)∨S'.life=wrap64 (S.life+1):=by
 rcases h with ⟨_,n,rfl⟩|⟨hsup,hf,k⟩
 ·exact .inl ⟨rfl,n⟩
 ·rcases k with ⟨_,n,rfl⟩|⟨z1,rs,hd,hta,k⟩
  ·exact(lopen_lf S s 1 (((lyOf (S.now 0)).log:Nat):Int)).imp (fun h=>⟨h,n⟩) id
  ·refine .inr ?_
   have ho:(lopen S s 1 (((lyOf (S.now 0)).log:Nat):Int)).2.life=wrap64 (S.life+1):=by
    obtain⟨_,_,_,e⟩:=lopen_zero (f:=1) z1
    have e':lopen S s 1 (((lyOf (S.now 0)).log:Nat):Int)=S.take.fl s:=e
    rw [e']
    exact fl_life _ _
   rcases k with ⟨_,_,rfl⟩|⟨ov,hov,k⟩
   ·exact ho
   ·rcases k with ⟨_,_,rfl⟩|⟨_,_,rfl⟩
    ·exact sredo_lf.trans ho
    ·exact start_lf.trans (sredo_lf.trans ho)
theorem swipe_lf (S:DS) (s a n:Nat):(swipe S s a n).2.life=S.life:=by
 unfold swipe
 split
 ·exact sbring_lf
 ·exact(fl_life _ _).trans sbring_lf
end
end Go.Proofs.YtkiehemoiapkkaaGreat
end
section
namespace Go.Proofs.YtkiehemoiapkkaaGreat
open Go.RowKit
section
variable {S:DS} {s:Nat}
theorem spend_calm {S:DS} (h:S.fuse= -1):S.spend.fuse= -1:=by
 unfold DS.spend
 simp only
 rw [if_neg (by omega)]
 exact h
theorem wr_calm {S:DS} (h:S.fuse= -1) (s:Nat) (x:Int) (n:Nat) (l:List Int):(S.wr s x n l).2.fuse= -1:=by
 unfold DS.wr
 split
 ·exact h
 ·split
  ·exact h
  ·split
   ·exact h
   ·exact spend_calm h
theorem fl_calm {S:DS} (h:S.fuse= -1) (s:Nat):(S.fl s).2.fuse= -1:=by
 unfold DS.fl
 split
 ·exact h
 ·exact spend_calm h
theorem stepsTo_calm {S:DS} (h:S.fuse= -1) {g:Nat→DS→Int×DS} (hg:∀k T,T.fuse= -1→(g k T).2.fuse= -1):∀n,(stepsTo S g n).2.fuse= -1
 |0=>h
 |n+1=>by
  unfold stepsTo
  split
  ·exact stepsTo_calm h hg n
  ·exact hg n _ (stepsTo_calm h hg n)
theorem awipe_calm {S:DS} (h:S.fuse= -1) (s f n:Nat):(awipe S s f n).2.fuse= -1:=by
 have h1:(wipeTo S s f (n+2)).2.fuse= -1:=stepsTo_calm h (fun k T hT=>wr_calm hT _ _ _ _) _
 unfold awipe
 split
 ·exact h1
 ·exact fl_calm h1 s
theorem anew_calm {S:DS} (h:S.fuse= -1) (s f:Nat) (num:Int):(anew S s f num).2.fuse= -1:=by
 unfold anew
 split
 ·exact h
 ·split
  ·exact h
  ·split
   ·exact wr_calm h _ _ _ _
   ·exact fl_calm (wr_calm h _ _ _ _) _
theorem renew_whole {l r:List Int} (hl:l.length=512) (hr:r.length=512) {N:Nat} (h1:1≤N) (hN:N<9223372036854775808) (h:(snewest l r).2.1<N):
    (snewest (sput l r (srenew l r (N:Int) []).1 (srenew l r (N:Int) []).2.1).1 (sput l r (srenew l r (N:Int) []).1 (srenew l r (N:Int) []).2.1).2).2=(N, [],0):=by
 have e:(srenew l r (N:Int) [])=if (snewest l r).2.2.2=0∧(snewest l r).1=0 then (1,sform (turnOf (r.getD 0 0) (r.getD 511 0)) (bytes8 N ++ []),0) else (0,sform (turnOf (l.getD 0 0) (l.getD 511 0)) (bytes8 N ++ []),0):=by
  unfold srenew
  rw [if_neg (by omega),if_neg (by omega),if_neg (by simp)]
  simp only
  rw [if_neg (by omega),Int.toNat_natCast]
 rw [e]
 by_cases q:(snewest l r).2.2.2=0∧(snewest l r).1=0
 ·rw [if_pos q]
  have:=pair_new (data:= []) hl hr hN h1 (by simp) h (t:=turnOf (r.getD 0 0) (r.getD 511 0)) (by have:=turnOf_le (r.getD 0 0) (r.getD 511 0);omega) 1 (by rw [if_pos q])
  simp only
  rw [this]
 ·rw [if_neg q]
  have:=pair_new (data:= []) hl hr hN h1 (by simp) h (t:=turnOf (l.getD 0 0) (l.getD 511 0)) (by have:=turnOf_le (l.getD 0 0) (l.getD 511 0);omega) 0 (by rw [if_neg q])
  simp only
  rw [this]
theorem anew_whole {S:DS} {s f N:Nat} (h:S.Ok s) (hf:f+1<s) (h1:1≤N) (hN:N<9223372036854775808) (hlt:S.num f<N) (h0:(anew S s f (N:Int)).1=0):(snewest ((anew S s f (N:Int)).2.now f) ((anew S s f (N:Int)).2.now (f+1))).2=(N, [],0)∧∀j,j<s→j≠f→j≠f+1→(anew S s f (N:Int)).2.now j=S.now j:=by
 have hl:=now_len h f (by omega)
 have hr:=now_len h (f+1) hf
 have hok:=renew_ok hl hr h1 hlt
 have hp:=renew_whole hl hr h1 hN hlt
 have hsl:=srenew_slot (S.now f) (S.now (f+1)) (N:Int) []
 have hfu:=srenew_full (S.now f) (S.now (f+1)) (N:Int) [] hok
 unfold anew at*
 split at h0
 ·simp at h0
 ·rename_i hfz
  rw [if_neg hfz]
  rw [if_neg (by omega)] at h0⊢
  generalize srenew (S.now f) (S.now (f+1)) (N:Int) []=Y at*
  rw [show (f:Int)+(Y.1:Int)=((f+Y.1:Nat):Int) by omega] at h0⊢
  have hw0:(S.wr s ((f+Y.1:Nat):Int) 512 Y.2.1).1=0:=by rw [wr_in hfz (by omega)]
  rw [if_neg (by omega)] at h0⊢
  have hwo:=wr_ok h hfz (show f+Y.1<s by omega) hfu
  refine⟨?_,fun j hj e1 e2=>?_⟩
  ·rw [fl_now hwo (by omega),fl_now hwo hf,wr_now hfz (by omega),wr_now hfz (by omega)]
   unfold sput at hp
   by_cases q:Y.1=0
   ·rw [q] at hp⊢
    rw [if_pos (by omega),if_neg (by omega)]
    rw [if_pos rfl] at hp
    exact hp
   ·have q1:Y.1=1:=by omega
    rw [q1] at hp⊢
    rw [if_neg (by omega),if_pos rfl]
    rw [if_neg (by omega)] at hp
    exact hp
  ·rw [fl_now hwo hj,wr_now hfz (by omega),if_neg (by omega)]
theorem sopens_zero:(sopens (zs 512)).2≠0∨(sopens (zs 512)).1.length<12:=by
 have hb:sbody (zs 512)= []:=by
  unfold sbody
  rw [show slen (zs 512)=0 from by unfold slen;rw [show (zs 512).getD 1 0=0 from rfl,show (zs 512).getD 2 0=0 from rfl];rfl]
  exact List.take_zero
 unfold sopens
 rw [if_neg (by rw [zs_len];omega)]
 unfold sopen
 rw [hb]
 split
 ·left;show (30:Nat)≠0;omega
 ·rename_i b h
  right
  split at h
  ·cases h;show (0:Nat)<12;omega
  ·cases h
theorem fresh_piece:(pcOf (zs 512)).d= []∧(pcOf (zs 512)).e=0:=by
 unfold pcOf
 rw [if_pos sopens_zero]
 exact⟨rfl,rfl⟩
theorem rtop_zero {R:Nat→PC}:∀k,(∀i,i<k→(R i).e=0)→rtop R k=0
 |0,_=>rfl
 |k+1,h=>by
  show (if (R k).e≤1073741824 then max (rtop R k) (R k).e else rtop R k)=0
  rw [h k (by omega),rtop_zero k (fun i hi=>h i (by omega))]
  rfl
theorem awipe_zs {S:DS} {s f n:Nat} (h:S.Ok s) (hs:f+2+n≤s) (h0:(awipe S s f n).1=0):∀j,j<n+2→(awipe S s f n).2.now (f+j)=zs 512:=fun j hj=>by
 obtain⟨h1,h2,h3,h4⟩:=wipeTo_keeps (f:=f) h (n:=n+2) (by omega) (n+2) (Nat.le_refl _)
 unfold awipe at*
 by_cases e:(wipeTo S s f (n+2)).1=0
 ·rw [if_neg (by omega),fl_now h2 (by omega)]
  exact h4 e j hj
 ·rw [if_pos e] at h0
  exact absurd h0 e
theorem format_calm (h:S.Ok s) (hf:S.fuse= -1) {a b:Nat} (hab:a+2+b≤s) (hb1:18≤b) (hb2:b≤256):
    (lformat S s a b).1=0∧(lformat S s a b).2.fuse= -1∧oNew (lformat S s a b).2 a=(1,0,0)∧∀j,j<b→(lformat S s a b).2.now (a+2+j)=zs 512:=by
 have hr0:lrefuse S s (a:Int) (b:Int)=0:=by
  unfold lrefuse
  rw [if_neg (by omega),if_neg (by omega),if_neg (by omega),if_neg (by omega)]
 unfold lformat
 rw [if_neg (by omega)]
 simp only [Int.toNat_natCast]
 have hok:S.take.Ok s:=⟨h.len,h.lo,h.hi,h.puts,h.fuse⟩
 obtain⟨k1,k2,k3,k4⟩:=awipe_keeps (f:=a) (n:=b) hok hab
 have hc1:=awipe_calm (S:=S.take) hf s a b
 have h0:=Decidable.byContradiction (fun e=>by have:=k3 e;omega)
 have hz:=awipe_zs hok hab h0
 obtain⟨q1,q2⟩:=k4 h0
 rw [if_neg (by omega)]
 have hr:=renew_ok (now_len k2 a (by omega)) (now_len k2 (a+1) (by omega)) (N:=4294967296) (by omega) (by show DS.num _ a<_;rw [q1];omega)
 have hc2:(anew (awipe S.take s a b).2 s a 4294967296).2.fuse= -1:=anew_calm hc1 s a _
 have h1:(anew (awipe S.take s a b).2 s a 4294967296).1=0:=Decidable.byContradiction (fun e=>by have h5:=(anew_err (num:=4294967296) (by omega) hr e).1;rw [hc2] at h5;omega)
 obtain⟨w1,w2⟩:=anew_whole (s:=s) (f:=a) (N:=4294967296) k2 (by omega) (by omega) (by omega) (by rw [q1];omega) h1
 refine⟨h1,hc2,?_,fun j hj=>?_⟩
 ·unfold oNew lnewest
  generalize snewest ((anew (awipe S.take s a b).2 s a 4294967296).2.now a) ((anew (awipe S.take s a b).2 s a 4294967296).2.now (a+1))=X at*
  have w1:=w1
  rw [w1]
  decide
 ·have:=w2 (a+2+j) (by omega) (by omega) (by omega)
  refine Eq.trans this ?_
  rw [show a+2+j=a+(2+j) by omega]
  exact hz (2+j) (by omega)
theorem open_calm {a b:Nat} (_hok:S.Ok s) (hf:S.fuse= -1) (hab:a+2+b≤s) (hb1:18≤b) (hb2:b≤256) (hn:oNew S a=(1,0,0)) (hz:∀j,j<b→S.now (a+2+j)=zs 512):
    (lopen S s a b).1=0∧(lopen S s a b).2.fuse= -1∧(lopen S s a b).2.life=wrap64 (S.life+1)∧(∀rs hd,Tells (Rp (oRing S a) b) (oNew S a).1 (oNew S a).2.1 rs hd→rs= []∧hd=0)∧oTop S a b=1:=by
 have hr0:lrefuse S s (a:Int) (b:Int)=0:=by
  unfold lrefuse
  rw [if_neg (by omega),if_neg (by omega),if_neg (by omega),if_neg (by omega)]
 have hR:∀j,j<b→(oRing S a j).e=0∧(oRing S a j).d= []:=fun j hj=>by
  unfold oRing
  rw [hz j hj]
  exact⟨fresh_piece.2,fresh_piece.1⟩
 have ht:oTop S a b=1:=by
  unfold oTop
  rw [rtop_zero b (fun i hi=>(hR i hi).1),hn]
  rfl
 have e1:lopen S s (a:Int) (b:Int)=S.take.fl s:=by
  unfold lopen
  rw [if_neg (by omega),Int.toNat_natCast,Int.toNat_natCast,if_neg (by rw [hn];decide),if_neg (by omega)]
 rw [e1]
 have hc:=fl_calm (S:=S.take) hf s
 refine⟨Decidable.byContradiction (fun e=>by have:=(fl_err e).2.1;have:S.take.fuse= -1:=hf;omega),hc,fl_life _ _,fun rs hd htl=>?_,ht⟩
 rw [hn] at htl
 cases rs with
 |nil=>exact⟨rfl,htl⟩
 |cons x xs=>
  obtain⟨c,hc,_⟩:=htl
  have h1:=(hc.2.2.1 0 (by have:=hc.1;omega)).2.2.2.2.1
  have h2:Rp (oRing S a) b (0+0)=oRing S a 0:=by unfold Rp;rw [Nat.add_zero,Nat.zero_mod]
  rw [h2,(hR 0 (by omega)).2] at h1
  simp at h1
end
end Go.Proofs.YtkiehemoiapkkaaGreat
end
section
namespace Go.Proofs.YtkiehemoiapkkaaGreat
open Go.RowKit Go.Maps
section
variable {S S2:DS} {s h0:Nat} {x:Int}
theorem sbring_calm:∀{ms:CM} {S:DS},S.fuse= -1→(sbring S s h0 ms).2.fuse= -1
 | [],_,h=>h
 |q :: qs,S,h=>by
  have h1:=wr_calm h s ((h0+q.1:Nat):Int) 512 q.2
  unfold sbring
  split
  ·exact h1
  ·exact sbring_calm h1
theorem sbring_zs:∀{ms:CM} {S:DS},S.fuse= -1→(∀q∈ms,h0+q.1<s∧q.2=zs 512)→(∀j,j<s→S.now j=zs 512)→∀j,j<s→(sbring S s h0 ms).2.now j=zs 512
 | [],_,_,_,hz=>hz
 |q :: qs,S,h,hm,hz=>by
  obtain⟨m1,m2⟩:=hm q (List.mem_cons_self ..)
  have h2:∀j,j<s→(S.wr s ((h0+q.1:Nat):Int) 512 q.2).2.now j=zs 512:=fun j hj=>by
   rw [wr_now (by omega) m1]
   split
   ·exact m2
   ·exact hz j hj
  unfold sbring
  split
  ·exact h2
  ·exact sbring_zs (wr_calm h s ((h0+q.1:Nat):Int) 512 q.2) (fun x hx=>hm x (List.mem_cons_of_mem _ hx)) h2
theorem zrow_in {n a:Nat} (hn:a+n≤s):∀q∈zrow n,a+q.1<s∧q.2=zs 512:=fun q hq=>by
 unfold zrow at hq
 obtain⟨i,hi,rfl⟩:=List.mem_map.1 hq
 have:=List.mem_range.1 hi
 exact⟨by show a+i<s;omega,rfl⟩
theorem fl_done (hf:S.fuse= -1):(S.fl s).1=0:=Decidable.byContradiction (fun e=>by have:=(fl_err e).2.1;omega)
theorem swipe_calm {a n:Nat} (hok:S.Ok s) (hf:S.fuse= -1) (hn:a+n≤s) (hz:∀j,j<s→S.now j=zs 512):(swipe S s a n).1=0∧(swipe S s a n).2.fuse= -1∧(swipe S s a n).2.Ok s∧(swipe S s a n).2.puts= []∧(∀j,j<s→(swipe S s a n).2.now j=zs 512):=by
 obtain⟨a1,_,_,a4⟩:=swipe_facts hok hn
 obtain⟨_,_,b3,b4,_⟩:=sbring_facts (h0:=a) (ms:=zrow n) hok (fun q hq=>⟨(zrow_in hn q hq).1,by rw [(zrow_in hn q hq).2];exact zs_len 512⟩)
 have c1:=sbring_calm (s:=s) (h0:=a) (ms:=zrow n) hf
 have c3:=Decidable.byContradiction (fun e=>by have:=b4 e;omega)
 have e:swipe S s a n=(sbring S s a (zrow n)).2.fl s:=by unfold swipe;rw [if_neg (fun h=>h c3)]
 have d0:(swipe S s a n).1=0:=by rw [e];exact fl_done c1
 refine⟨d0,by rw [e];exact fl_calm c1 s,a1,a4 d0,fun j hj=>?_⟩
 rw [e,fl_now b3 hj]
 exact(sbring_zs (s:=s) (h0:=a) hf (zrow_in hn) hz) j hj
theorem wr_far {k:Nat} (hk:k<s) (l:List Int) {j:Nat} (hj:j≠k):(S.wr s (k:Int) 512 l).2.now j=S.now j:=by
 by_cases hf:S.fuse=0
 ·unfold DS.wr
  rw [if_pos hf]
 ·rw [wr_now hf hk,if_neg hj]
theorem wipeTo_far {f j:Nat}:∀k,f+k≤s→f+k≤j→(wipeTo S s f k).2.now j=S.now j
 |0,_,_=>rfl
 |k+1,h1,h2=>by
  have h3:(wipeTo S s f k).2.now j=S.now j:=wipeTo_far k (by omega) (by omega)
  show (stepsTo S _ (k+1)).2.now j=_
  unfold stepsTo
  split
  ·exact h3
  ·exact(wr_far (k:=f+k) (by omega) _ (by omega)).trans h3
theorem lformat_far {a b j:Nat} (hok:S.Ok s) (hab:a+2+b≤s) (hj:a+2+b≤j) (hjs:j<s):(lformat S s (a:Int) (b:Int)).2.now j=S.now j:=by
 have htk:S.take.Ok s:=⟨hok.len,hok.lo,hok.hi,hok.puts,hok.fuse⟩
 obtain⟨_,k2,_,_⟩:=wipeTo_keeps (f:=a) htk (n:=b+2) (by omega) (b+2) (Nat.le_refl _)
 have h1:(wipeTo S.take s a (b+2)).2.now j=S.now j:=wipeTo_far (S:=S.take) (b+2) (by omega) (by omega)
 have h2:(awipe S.take s a b).2.now j=S.now j:=by
  unfold awipe
  split
  ·exact h1
  ·exact(fl_now k2 hjs).trans h1
 obtain⟨_,k3,_,_⟩:=awipe_keeps (f:=a) (n:=b) htk hab
 unfold lformat
 split
 ·rfl
 ·simp only [Int.toNat_natCast]
  split
  ·exact h2
  ·exact((anew_far k3 (by omega) _).2 j (by omega) hjs).trans h2
theorem lebTake (n k:Nat):(leb n k).take n=leb n k:=List.take_of_length_le (by rw [leb_len];omega)
theorem sup_read {a b c:Nat} (hg:Geo a b c):SupAt (supOf a b c) a∧(lyOf (supOf a b c)).log=b∧(lyOf (supOf a b c)).home=3+b∧(lyOf (supOf a b c)).blocks=a-(3+b):=by
 have hg':=hg
 obtain⟨⟨h1,h2⟩,⟨h3,h4⟩,h5,h6,h7⟩:=hg
 have hlen:=sealed_sup a b c
 have hhead:headL.length=8:=rfl
 have hp:∀q m,q+m≤508→part (sealed (supBody a b c)) q m=part (supBody a b c) q m:=fun q m h=>part_appl _ _ _ _ (by rw [supBody_len];exact h)
 have q8:u32 (sealed (supBody a b c)) 8=a:=by
  unfold u32
  rw [hp 8 4 (by omega)]
  unfold supBody
  rw [part_appl _ _ _ _ (by simp only [List.length_append,leb_len,hhead];omega),part_appl _ _ _ _ (by simp only [List.length_append,leb_len,hhead];omega),part_appl _ _ _ _ (by simp only [List.length_append,leb_len,hhead];omega),part_app _ _ _ _ hhead.symm,lebTake,le_leb _ _ (by omega)]
 have q12:u32 (sealed (supBody a b c)) 12=b:=by
  unfold u32
  rw [hp 12 4 (by omega)]
  unfold supBody
  rw [part_appl _ _ _ _ (by simp only [List.length_append,leb_len,hhead];omega),part_appl _ _ _ _ (by simp only [List.length_append,leb_len,hhead];omega),part_app _ _ _ _ (by simp only [List.length_append,leb_len,hhead]),lebTake,le_leb _ _ (by omega)]
 have q16:u32 (sealed (supBody a b c)) 16=c:=by
  unfold u32
  rw [hp 16 4 (by omega)]
  unfold supBody
  rw [part_appl _ _ _ _ (by simp only [List.length_append,leb_len,hhead];omega),part_app _ _ _ _ (by simp only [List.length_append,leb_len,hhead]),lebTake,le_leb _ _ (by omega)]
 have hb:Bytes (sealed (supBody a b c)):=(supBody_bytes _ _ _).append (leb_bytes _ _)
 refine⟨⟨(super_iff hb hlen).2 ⟨?_,?_⟩,q8⟩,?_,?_,?_⟩
 ·rw [q8,q12,q16];exact hg'
 ·rw [q8,q12,q16]
 ·unfold lyOf;exact q12
 ·unfold lyOf;show 3+u32 _ 12=_;rw [q12]
 ·unfold lyOf;show u32 _ 8-(3+u32 _ 12)=_;rw [q8,q12]
theorem sformat_calm {a b c:Nat} (hok:S.Ok a) (hby:S.Byt) (hf:S.fuse= -1) (hl0:0≤S.life) (hl1:S.life≤1) (hg:Geo a b c) (hz:∀j,j<a→S.now j=zs 512):
    (sformat S a a b c).1=0∧(sformat S a a b c).2.fuse= -1∧(sformat S a a b c).2.Ok a∧(sformat S a a b c).2.puts= []∧(sformat S a a b c).2.now 0=supOf a b c∧oNew (sformat S a a b c).2 1=(1,0,0)∧∀j,3≤j→j<a→(sformat S a a b c).2.now j=zs 512:=by
 obtain⟨⟨g1,g2⟩,⟨g3,g4⟩,g5,g6,g7⟩:=hg
 have hg:Geo a b c:=⟨⟨g1,g2⟩,⟨g3,g4⟩,g5,g6,g7⟩
 have htk:S.take.Ok a:=⟨hok.len,hok.lo,hok.hi,hok.puts,hok.fuse⟩
 have e0:sformat S a a b c=sformed S a b c:=by
  unfold sformat
  rw [if_neg (by omega)]
  haveI:=geoDec (a:Int) (b:Int) (c:Int)
  rw [if_pos ⟨hg,rfl⟩,Int.toNat_natCast,Int.toNat_natCast]
 obtain⟨a1,a2,a3,a4,a5⟩:=swipe_calm (s:=a) (a:=0) (n:=1) htk hf (by omega) (fun j hj=>hz j hj)
 have ab:=swipe_byt hby.take a 0 1
 have al:=swipe_lf S.take a 0 1
 have f1:fmt1 S a=swipe S.take a 0 1:=rfl
 rw [←f1] at a1 a2 a3 a4 a5 ab al
 obtain⟨b1,b2,b3,b4,b5⟩:=swipe_calm (s:=a) (a:=1) (n:=a-1) a3 a2 (by omega) a5
 have bb:=swipe_byt ab a 1 (a-1)
 have bl:=(swipe_lf (fmt1 S a).2 a 1 (a-1)).trans al
 have f2:fmt2 S a=swipe (fmt1 S a).2 a 1 (a-1):=rfl
 rw [←f2] at b1 b2 b3 b4 b5 bb bl
 have hlt:S.take.life=S.life+1:=by show wrap64 (S.life+1)=_;unfold wrap64;omega
 obtain⟨c1,c2,c3,c4⟩:=format_calm (a:=1) (b:=b) b3 b2 (by omega) (by omega) (by omega)
 obtain⟨d1,_,d3⟩:=lformat_facts (S:=(fmt2 S a).2) (s:=a) (t:=10) b3 (by omega) (by omega) (by omega) (by omega) b4 1 (b:Int)
 have dfar:∀j,3+b≤j→j<a→(lformat (fmt2 S a).2 a 1 (b:Int)).2.now j=zs 512:=fun j h1 h2=>(lformat_far (a:=1) (b:=b) b3 (by omega) (by omega) h2).trans (b5 j h2)
 have c1:(fmt3 S a b).1=0:=c1
 have c2:(fmt3 S a b).2.fuse= -1:=c2
 have c3:oNew (fmt3 S a b).2 1=(1,0,0):=c3
 have c4:∀j,j<b→(fmt3 S a b).2.now (1+2+j)=zs 512:=c4
 have d1:(fmt3 S a b).2.Ok a:=d1
 have dfar:∀j,3+b≤j→j<a→(fmt3 S a b).2.now j=zs 512:=dfar
 have hsl:(supOf a b c).length=512:=sealed_sup _ _ _
 have f4:fmt4 S a b c=(fmt3 S a b).2.wr a ((0:Nat):Int) 512 (supOf a b c):=rfl
 have e1:(fmt4 S a b c).1=0:=by rw [f4,wr_in (by omega) (by omega)]
 have e2:(fmt4 S a b c).2.fuse= -1:=wr_calm c2 _ _ _ _
 have e3:(fmt4 S a b c).2.Ok a:=by rw [f4];exact wr_ok d1 (by omega) (by omega) hsl
 have e4:∀j,(fmt4 S a b c).2.now j=if j=0 then supOf a b c else (fmt3 S a b).2.now j:=fun j=>by rw [f4];exact wr_now (by omega) (by omega) _ j
 have e5:sformed S a b c=(fmt4 S a b c).2.fl a:=by
  unfold sformed
  rw [if_neg (fun h=>h a1),if_neg (fun h=>h b1),if_neg (fun h=>h c1),if_neg (fun h=>h e1)]
 rw [e0,e5]
 have hfl:∀j,j<a→((fmt4 S a b c).2.fl a).2.now j=(fmt4 S a b c).2.now j:=fun j hj=>fl_now e3 hj
 refine⟨fl_done e2,fl_calm e2 a,fl_ok e3,fl_zero (fl_done e2),?_,?_,fun j h1 h2=>?_⟩
 ·rw [hfl 0 (by omega),e4 0,if_pos rfl]
 ·have o1:((fmt4 S a b c).2.fl a).2.now 1=(fmt3 S a b).2.now 1:=by rw [hfl 1 (by omega),e4 1,if_neg (by omega)]
  have o2:((fmt4 S a b c).2.fl a).2.now 2=(fmt3 S a b).2.now 2:=by rw [hfl 2 (by omega),e4 2,if_neg (by omega)]
  rw [←c3]
  unfold oNew
  rw [o1,o2]
 ·rw [hfl j h2,e4 j,if_neg (by omega)]
  by_cases h3:j<3+b
  ·have:=c4 (j-3) (by omega)
   rwa [show 1+2+(j-3)=j by omega] at this
  ·exact dfar j (by omega) h2
theorem start_calm5 {L:LG} (hf:S.fuse= -1):(L.start S s).2.1.fuse= -1:=by
 unfold LG.start
 split
 ·exact hf
 ·split
  ·exact hf
  ·split <;> exact anew_calm hf _ _ _
theorem start_Llife {L:LG}:(L.start S s).2.2.life=L.life:=by
 unfold LG.start
 split
 ·rfl
 ·split
  ·rfl
  ·split <;> rfl
theorem SLog.life {L:LG} (h:SLog S s L):L.life=wrap64 (S.life+1):=by
 obtain⟨rs,hd,ov,_,_,rfl⟩:=h
 exact start_Llife
theorem sopen_calm (hok:S.Ok s) (hby:S.Byt) (hf:S.fuse= -1) (hsup:SupAt (S.now 0) s) (hn:oNew S 1=(1,0,0)) (hz:∀j,j<(lyOf (S.now 0)).log→S.now (1+2+j)=zs 512) (ho:SOut S s x S2):x=0∧S2.fuse= -1∧∀j,3≤j→j<s→S2.now j=S.now j:=by
 have hgeo:=stOpen_geo hsup
 obtain⟨c1,c2,c3,c4,c5⟩:=open_calm (a:=1) (b:=(lyOf (S.now 0)).log) hok hf (by omega) (by omega) (by omega) hn hz
 have c1':(lopen S s 1 (((lyOf (S.now 0)).log:Nat):Int)).1=0:=c1
 obtain⟨_,z2,z3,hlo⟩:=lopen_zero (f:=1) c1'
 have hlo':lopen S s 1 (((lyOf (S.now 0)).log:Nat):Int)=S.take.fl s:=hlo
 have htk:S.take.Ok s:=⟨hok.len,hok.lo,hok.hi,hok.puts,hok.fuse⟩
 rcases ho with ⟨hl,n1,rfl⟩|⟨_,_,k⟩
 ·exfalso
  rcases hl with ⟨a1,_,_⟩|⟨_,_,_,e⟩|⟨_,a2,_,_⟩
  ·omega
  ·exact n1 e
  ·exact a2 hsup
 ·rcases k with ⟨e1,m1,_⟩|⟨_,rs,hd,hta,k⟩
  ·exact absurd (e1.symm.trans c1') m1
  ·obtain⟨rfl,rfl⟩:=c4 rs hd hta.t
   rcases k with ⟨a1,_,_⟩|⟨ov,hov,k⟩
   ·cases a1
   ·have hr:sredo (lopen S s 1 (((lyOf (S.now 0)).log:Nat):Int)).2 s (lyOf (S.now 0)) ov []=(0,(lopen S s 1 (((lyOf (S.now 0)).log:Nat):Int)).2):=by unfold sredo;rw [if_pos rfl]
    rw [hr] at k
    rcases k with ⟨a1,a2,_⟩|⟨_,a2,rfl⟩
    ·exact absurd a1.symm a2
    ·have hlok:=lgOf_ok (s:=s) hta hby z2 z3 (by omega) (by omega) (by omega)
     have hnt:S.num 1<((lgOf S 1 (lyOf (S.now 0)).log 0).top+1)*4294967296:=num_top z2
     rw [hlo'] at a2⊢
     have hokP:=fl_ok (s:=s) htk
     have hnow:∀j,j<s→(S.take.fl s).2.now j=S.now j:=fun j hj=>fl_now (S:=S.take) htk hj
     have hnum:(S.take.fl s).2.num (lgOf S 1 (lyOf (S.now 0)).log 0).f<((lgOf S 1 (lyOf (S.now 0)).log 0).top+1)*4294967296:=by
      show (S.take.fl s).2.num 1<_
      rw [num_eq (S:=S) (S':=(S.take.fl s).2) (hnow 1 (by omega)) (hnow 2 (by omega))]
      exact hnt
     have hlf:(lgOf S 1 (lyOf (S.now 0)).log 0).life=(S.take.fl s).2.life:=(fl_life S.take s).symm
     have hfP:=fl_calm (S:=S.take) hf s
     have hfu:=start_calm5 (s:=s) (L:=lgOf S 1 (lyOf (S.now 0)).log 0) hfP
     refine⟨Decidable.byContradiction (fun e=>?_),hfu,fun j h1 h2=>?_⟩
     ·have:=(start_err hokP hlok rfl hlf hnum (by show ((lgOf S 1 (lyOf (S.now 0)).log 0).start (S.take.fl s).2 s).1≠0;rw [a2];exact e)).1
      omega
     ·refine Eq.trans ?_ (hnow j h2)
      show ((lgOf S 1 (lyOf (S.now 0)).log 0).start (S.take.fl s).2 s).2.1.now j=_
      unfold LG.start
      split
      ·rfl
      ·split
       ·rfl
       ·split <;> exact(anew_far hokP (by show 1+1<s;omega) _).2 j (by show 1+2≤j;omega) h2
end
end Go.Proofs.YtkiehemoiapkkaaGreat
end
section
namespace Go.Proofs.YtkiehemoiapkkaaGreat
open Go.RowKit Go.Maps
theorem num6_any (x:Int) (w:World):Calls Tryz.prog 13 #[.int .i64 x] w fun e w'=>e= .returned (.int .i64 x)∧w'=w:=by
 go_enter Tryz.func13,Tryz.ntmps13
 go_wp2
 go_ret
 exact⟨rfl,rfl⟩
def wthn (n:Int) (lo hi:Nat):Nat:=lo+(n.emod (hi-lo+1:Nat)).toNat
theorem wthn_in (n:Int) {lo hi:Nat} (h:lo≤hi):lo≤wthn n lo hi∧wthn n lo hi≤hi:=by
 unfold wthn
 have h1:(0:Int)<((hi-lo+1:Nat):Int):=by omega
 have h2:=Int.emod_nonneg n (by omega:((hi-lo+1:Nat):Int)≠0)
 have h3:=Int.emod_lt_of_pos n h1
 have h4:n.emod ((hi-lo+1:Nat):Int)=n%((hi-lo+1:Nat):Int):=rfl
 omega
theorem tmod_emod {n:Int} {m:Nat} (hm:0<m):(0≤n.tmod m→n.tmod m=n%m)∧(n.tmod m<0→n.tmod m+m=n%m):=by
 have h0:(m:Int)≠0:=by omega
 have h1:=Int.emod_nonneg n h0
 have h2:=Int.emod_lt_of_pos n (by omega:(0:Int)<m)
 have h3:=Int.tmod_add_mul_tdiv n m
 have h4:=Int.emod_add_mul_ediv n m
 have h5:n.tmod m<m:=Int.tmod_lt_of_pos n (by omega)
 have h6: -(m:Int)<n.tmod m:=Int.neg_lt_of_neg_lt (by
  have:=Int.lt_tmod_of_pos n (by omega:(0:Int)<m)
  omega)
 have key:∀r:Int,0≤r→r<m→∀q:Int,r+m*q=n→r=n%m:=fun r hr0 hr1 q hq=>by
  rw [←hq,Int.add_mul_emod_self_left,Int.emod_eq_of_lt hr0 hr1]
 refine⟨fun h=>key _ h h5 _ h3,fun h=>key _ (by omega) (by omega) (n.tdiv m-1) ?_⟩
 rw [Int.mul_sub]
 omega
set_option maxRecDepth 20000 in
theorem within6_any (n:Int) (lo hi:Nat) (h:lo≤hi) (hh:hi≤1000000) (_hn: -9223372036854775808≤n∧n≤9223372036854775807) (w:World):Calls Tryz.prog 21 #[.int .i64 n, .int .i64 (lo:Int), .int .i64 (hi:Int)] w fun e w'=>e= .returned (.int .i64 (wthn n lo hi:Int))∧w'=w:=by
 obtain⟨m,hm⟩:∃m:Nat,m=hi-lo+1:=⟨_,rfl⟩
 have hr:(wthn n lo hi:Int)=(lo:Int)+n%(m:Int):=by
  have h2:=Int.emod_nonneg n (by omega:(m:Int)≠0)
  unfold wthn
  rw [←hm]
  have h4:n.emod (m:Int)=n%(m:Int):=rfl
  omega
 obtain⟨t1,t2⟩:=tmod_emod (n:=n) (m:=m) (by omega)
 have h2:=Int.emod_nonneg n (by omega:(m:Int)≠0)
 have h3:=Int.emod_lt_of_pos n (by omega:(0:Int)<m)
 have hmi:(hi:Int)-(lo:Int)+1=(m:Int):=by omega
 have e4:((hi:Int)-(lo:Int)+1 == 0)=false:=by rw [hmi];simpa using (by omega:(m:Int)≠0)
 obtain⟨R,hR⟩:∃R:Int,R=n.tmod m:=⟨_,rfl⟩
 have e5:n.tmod ((hi:Int)-(lo:Int)+1)=R:=by rw [hmi];exact hR.symm
 rw [hr]
 rw [←hR] at t1 t2
 have hRb: -1000002≤R∧R≤1000002:=by
  by_cases q:0≤R
  ·have:=t1 q;omega
  ·have:=t2 (by omega);omega
 obtain⟨V,hV⟩:∃V:Int,V=(lo:Int)+n%(m:Int):=⟨_,rfl⟩
 rw [←hV]
 by_cases q:0≤R
 ·have q1:¬R<0:=by omega
  have e7:(lo:Int)+R=V:=by have:=t1 q;omega
  have e8:wrap64 V=V:=wrapS (by omega) (by omega)
  clear hr t1 t2 h2 h3 hR hV q hm hmi
  go_enter Tryz.func21,Tryz.ntmps21
  go_wp2
  go_ret
  exact⟨rfl,rfl⟩
 ·have q1:R<0:=by omega
  obtain⟨R2,hR2⟩:∃R2:Int,R+((hi:Int)-(lo:Int)+1)=R2:=⟨_,rfl⟩
  have e6:wrap64 R2=R2:=wrapS (by omega) (by omega)
  have e7:(lo:Int)+R2=V:=by have:=t2 q1;omega
  have e8:wrap64 V=V:=wrapS (by omega) (by omega)
  clear hr t1 t2 h2 h3 hR hV q hm hmi
  go_enter Tryz.func21,Tryz.ntmps21
  go_wp2
  go_ret
  exact⟨rfl,rfl⟩
structure GEO where
 s:Nat
 l:Nat
 n:Nat
def geoOf (B L N:Int):GEO:=⟨wthn B (3+wthn L 18 256+2+wthn N 1 256+1) 2048,wthn L 18 256,4*wthn N 1 256⟩
theorem geoOf_ok (B L N:Int):Geo (geoOf B L N).s (geoOf B L N).l (geoOf B L N).n∧(geoOf B L N).s≤2048∧18≤(geoOf B L N).l∧(geoOf B L N).l≤256∧4≤(geoOf B L N).n∧(geoOf B L N).n≤1024∧3+(geoOf B L N).l+2+(geoOf B L N).n / 4+1≤(geoOf B L N).s∧(geoOf B L N).n%4=0:=by
 have h1:=wthn_in L (lo:=18) (hi:=256) (by omega)
 have h2:=wthn_in N (lo:=1) (hi:=256) (by omega)
 have h3:=wthn_in B (lo:=3+wthn L 18 256+2+wthn N 1 256+1) (hi:=2048) (by omega)
 unfold geoOf
 dsimp only
 generalize wthn B (3+wthn L 18 256+2+wthn N 1 256+1) 2048=s at*
 generalize wthn L 18 256=l at*
 generalize wthn N 1 256=n at*
 refine⟨?_,by omega,by omega,by omega,by omega,by omega,by omega,by omega⟩
 unfold Geo
 omega
abbrev supV (g:GEO):Value:= .agg #[.int .i64 (g.s:Int), .int .i64 (g.l:Int), .int .i64 (g.n:Int)]
theorem infoSup:(Tryz.prog.info? 31).map (·.size)=some 3:=by kernel_rfl
theorem sup_range {w:World} {g:Nat} {a b c:Value} (hx:w.heap[g]? =some (.cells #[a,b,c] 31 (0,0))):w.rangeAt g 0 [a,b,c]:=by
 intro j v hv
 match j,hv with
 |0,hv=>cases hv;exact cell_of_block hx (j:=0) rfl
 |1,hv=>cases hv;exact cell_of_block hx (j:=1) rfl
 |2,hv=>cases hv;exact cell_of_block hx (j:=2) rfl
 |j+3,hv=>simp at hv
theorem supFacts {a b:Nat} (i1:18≤b∧b≤256) (i2:1≤a∧a≤256):∃x A x1 x2 x3:Nat,x=3+b+2+a+1∧A=4*a∧x≤2048∧wrap64 (4*(a:Int))=(A:Int)∧(A:Int).tdiv 4=(a:Int)∧wrap64 (3+(b:Int))=(x1:Int)∧wrap64 ((x1:Int)+2)=(x2:Int)∧wrap64 (a:Int)=(a:Int)∧wrap64 ((x2:Int)+(a:Int))=(x3:Int)∧wrap64 ((x3:Int)+1)=(x:Int)∧¬(2048:Int)<(x:Int):=
   ⟨3+b+2+a+1,4*a,3+b,3+b+2,3+b+2+a,rfl,rfl,by omega,(wrapS (by omega) (by omega)).trans (by omega),by rw [div4];omega,(wrapS (by omega) (by omega)).trans (by omega),(wrapS (by omega) (by omega)).trans (by omega),wrapS (by omega) (by omega),(wrapS (by omega) (by omega)).trans (by omega),(wrapS (by omega) (by omega)).trans (by omega),by omega⟩
theorem setThree {w:World} {b:Nat} {t:TypeId} {a0 a1 a2:Value} (v0 v1 v2:Value) (h:w.heap[b]? =some (.cells #[a0,a1,a2] t (0,0))):
    (w.setCells b 0 [v0,v1,v2]).heap[b]? =some (.cells #[v0,v1,v2] t (0,0)):=by
 have h0:=(heap_setCell_same w b 0 _ t v0 h).trans (by rfl:_=some (Obj.cells #[v0,a1,a2] t (0,0)))
 have h1:=(heap_setCell_same _ b 1 _ t v1 h0).trans (by rfl:_=some (Obj.cells #[v0,v1,a2] t (0,0)))
 exact(heap_setCell_same _ b 2 _ t v2 h1).trans rfl
set_option maxRecDepth 20000 in
set_option maxHeartbeats 4000000 in
theorem super6_any (B L N:Int) (hB:I64 B) (hL:I64 L) (hN:I64 N) (w:World):Calls Tryz.prog 10 #[.agg #[.int .i64 B, .int .i64 L, .int .i64 N]] w fun e w'=>e= .returned (supV (geoOf B L N))∧Below w.heap.size w w':=by
 have i1:=wthn_in L (lo:=18) (hi:=256) (by omega)
 have i2:=wthn_in N (lo:=1) (hi:=256) (by omega)
 have k1:=fun w=>within6_any N 1 256 (by omega) (by omega) hN w
 have k2:=fun w=>within6_any L 18 256 (by omega) (by omega) hL w
 obtain⟨a,ha⟩:∃a,a=wthn N 1 256:=⟨_,rfl⟩
 obtain⟨b,hb⟩:∃b,b=wthn L 18 256:=⟨_,rfl⟩
 rw [←ha] at i2 k1
 rw [←hb] at i1 k2
 obtain⟨x,A,x1,x2,x3,hx,hA,hx2,e1,e2,f1,f2,f3,f4,f5,e4⟩:=supFacts i1 i2
 have k3:=fun w=>within6_any B x 2048 hx2 (by omega) hB w
 obtain⟨c,hc⟩:∃c,c=wthn B x 2048:=⟨_,rfl⟩
 rw [←hc] at k3
 have hG:geoOf B L N=⟨c,b,A⟩:=by unfold geoOf;rw [←ha,←hb,←hx,←hc,←hA]
 rw [hG]
 obtain⟨w1,hw1⟩:∃w1,w1=(w.alloc (.cells #[.int .i64 B, .int .i64 L, .int .i64 N] 23)).alloc (.cells #[.int .i64 0, .int .i64 0, .int .i64 0] 31):=⟨_,rfl⟩
 have hbx:w1.heap[w.heap.size+1]? =some (.cells #[.int .i64 0, .int .i64 0, .int .i64 0] 31 (0,0)):=by rw [hw1];exact heap_alloc2_new _ _ _
 have hB1:Below w.heap.size w w1:=by rw [hw1];exact cbelow_two w _ _
 have hth:=there_of hbx (n:=3) rfl
 have hra:=sup_range (setThree (.int .i64 (c:Int)) (.int .i64 (b:Int)) (.int .i64 (A:Int)) hbx)
 have HRa:Hid ((w1.setCells (w.heap.size+1) 0 [.int .i64 (c:Int), .int .i64 (b:Int), .int .i64 (A:Int)]).rangeAt (w.heap.size+1) 0 [.int .i64 (c:Int), .int .i64 (b:Int), .int .i64 (A:Int)]):=hra
 have HE:Hid (Below w.heap.size w (w1.setCells (w.heap.size+1) 0 [.int .i64 (c:Int), .int .i64 (b:Int), .int .i64 (A:Int)])):=hB1.trans ((Keeps.setCells (F:=fun j=>j=w.heap.size+1) rfl _ 0 _).below (fun j hj=>by omega) hB1.size)
 have d0:w1.cell? ⟨w.heap.size,0,none⟩=some (.int .i64 B):=by rw [hw1];exact cell_of_block (heap_alloc2_old _ _ _) (j:=0) rfl
 have d1:w1.cell? ⟨w.heap.size,1,none⟩=some (.int .i64 L):=by rw [hw1];exact cell_of_block (heap_alloc2_old _ _ _) (j:=1) rfl
 have d2:w1.cell? ⟨w.heap.size,2,none⟩=some (.int .i64 N):=by rw [hw1];exact cell_of_block (heap_alloc2_old _ _ _) (j:=2) rfl
 have h1:=k1 w1
 have h2:=k2 w1
 have h3:=k3 w1
 rw [show ((1:Nat):Int)=1 from rfl,show ((256:Nat):Int)=256 from rfl] at h1
 rw [show ((18:Nat):Int)=18 from rfl,show ((256:Nat):Int)=256 from rfl] at h2
 rw [show ((2048:Nat):Int)=2048 from rfl] at h3
 clear k1 k2 k3 ha hb hc hx hG hA hra hB1 hbx hB hL hN i1 i2 hx2
 go_enter Tryz.func10,Tryz.ntmps10
 go_wp2_with fail
 rw [←hw1]
 clear hw1
 refine h1.mono ?_
 rintro e w9 ⟨rfl,hw9⟩
 have hw9':=hw9.symm
 subst hw9'
 clear hw9 h1
 go_wp2_with fail
 refine h2.mono ?_
 rintro e w9 ⟨rfl,hw9⟩
 have hw9':=hw9.symm
 subst hw9'
 clear hw9 h2
 go_wp2_with fail
 refine h3.mono ?_
 rintro e w9 ⟨rfl,hw9⟩
 have hw9':=hw9.symm
 subst hw9'
 clear hw9 h3
 go_wp2_with (refine wpList_store_mid rfl 31 _ _ rfl (w.heap.size+1) 0 #[.int .i64 (c:Int), .int .i64 (b:Int), .int .i64 (A:Int)] rfl rfl ?h1 ?h2 ?h3 ?_)
 case h1=>exact hth
 case h2=>exact infoSup
 case h3=>simp [Value.oneCell']
 refine bodyPost_ret (results_cell_mid (P:=Tryz.prog) rfl _ _ (w.heap.size+1) _ _ rfl HRa.out Tryz.underlying31 rfl infoSup) rfl ⟨rfl,HE.out⟩
end Go.Proofs.YtkiehemoiapkkaaGreat
end
section
namespace Go.Proofs.YtkiehemoiapkkaaGreat
open Go.RowKit Go.Maps
theorem spanFacts {g:GEO} (h1:g.s≤2048) (h2:g.l≤256) (h3:g.n≤1024) (h4:3+g.l+2+g.n / 4+1≤g.s):∃E x1 x2 x3 x4:Nat,E=g.n / 4∧x1=2+g.n / 4∧x3=g.s-3-g.l∧x4=g.n+1∧(g.n:Int).tdiv 4=(E:Int)∧wrap64 (E:Int)=(E:Int)∧wrap64 (2+(E:Int))=(x1:Int)∧wrap64 ((g.s:Int)-3)=(x2:Int)∧wrap64 ((x2:Int)-(g.l:Int))=(x3:Int)∧wrap64 ((g.n:Int)+1)=(x4:Int):=
   ⟨g.n / 4,2+g.n / 4,g.s-3,g.s-3-g.l,g.n+1,rfl,rfl,rfl,rfl,div4 _,wrapS (by omega) (by omega),(wrapS (by omega) (by omega)).trans (by omega),(wrapS (by omega) (by omega)).trans (by omega),(wrapS (by omega) (by omega)).trans (by omega),(wrapS (by omega) (by omega)).trans (by omega)⟩
theorem belowN {w w':World} {B:Nat} (h:Below B w w') (n:Nat):Below B w (w'.drewN n):=⟨h.os,h.tape,h.output,h.size,h.block⟩
def spanOf (g:GEO) (b:Bool):Nat×Nat:=if b then (1,g.n+1) else (2+g.n / 4,g.s-3-g.l)
end Go.Proofs.YtkiehemoiapkkaaGreat
end
