import Derived.Test.YtkiehemoiapkkaaGreatW01
import Derived.Test.YtkiehemoiapkkaaGreatW02
import Derived.Test.YtkiehemoiapkkaaGreatW03
import Derived.Test.YtkiehemoiapkkaaGreatW04
import Derived.Test.YtkiehemoiapkkaaGreatW06
import Derived.Deep.RegionHeld3
import Derived.Laws.Shifts
import Derived.Deep.OwnRows
section
namespace Go.Proofs.YtkiehemoiapkkaaGreat
structure PC where
 e:Nat
 p:Nat
 i:Nat
 c:Nat
 d:List Int
def PC.zero:PC:=⟨0,0,0,0, []⟩
def pcBody (b:List Int):PC:=⟨le (b.take 4),le ((b.drop 4).take 4),le ((b.drop 8).take 2),le ((b.drop 10).take 2),b.drop 12⟩
def pcOf (l:List Int):PC:=if (sopens l).2≠0∨(sopens l).1.length<12 then PC.zero else pcBody (sopens l).1
def PC.ok (q:PC) (E P i c:Nat):Prop:=q.e=E∧q.p=P∧q.i=i∧q.c=c∧0<q.d.length∧(i+1≠c→q.d.length=492)
def dataTo (R:Nat→PC) (P k:Nat):List Int:=(List.range k).flatMap (fun i=>(R (P+i)).d)
theorem dataTo_zero (R:Nat→PC) (P:Nat):dataTo R P 0= []:=rfl
theorem dataTo_succ (R:Nat→PC) (P k:Nat):dataTo R P (k+1)=dataTo R P k ++ (R (P+k)).d:=by simp [dataTo,List.range_succ]
def Rec (R:Nat→PC) (E P c:Nat) (d:List Int):Prop:=1≤c∧c≤17∧(∀i,i<c→(R (P+i)).ok E (P+i) i c)∧d=dataTo R P c
theorem Rec.count {R:Nat→PC} {E P c:Nat} {d:List Int} (h:Rec R E P c d):(R P).c=c:=by
 have:=(h.2.2.1 0 h.1).2.2.2.1
 simpa using this
theorem Rec.unique {R:Nat→PC} {E P c c':Nat} {d d':List Int} (h:Rec R E P c d) (h':Rec R E P c' d'):c=c'∧d=d':=by
 have e:=h.count.symm.trans h'.count
 subst e
 exact⟨rfl,h.2.2.2.trans h'.2.2.2.symm⟩
def Tells (R:Nat→PC) (E:Nat):Nat→List (List Int)→Nat→Prop
 |P, [],h=>h=P
 |P,d :: ds,h=>∃c,Rec R E P c d∧Tells R E (P+c) ds h
theorem Tells.snoc {R:Nat→PC} {E:Nat}:∀{rs:List (List Int)} {P h c:Nat} {d:List Int},Tells R E P rs h→Rec R E h c d→Tells R E P (rs ++ [d]) (h+c)
 | [],P,h,c,d,ht,hr=>by
  have ht:h=P:=ht
  subst ht
  exact⟨c,hr,rfl⟩
 |x :: xs,P,h,c,d,⟨k,hk,ht⟩,hr=>⟨k,hk,Tells.snoc ht hr⟩
theorem Tells.unique {R:Nat→PC} {E:Nat}:∀{rs rs':List (List Int)} {P h h':Nat},Tells R E P rs h→(∀c d,¬Rec R E h c d)→Tells R E P rs' h'→(∀c d,¬Rec R E h' c d)→rs=rs'∧h=h'
 | [], [],P,h,h',a,_,b,_=>⟨rfl,(show h=P from a).trans (show h'=P from b).symm⟩
 | [],x :: xs,P,h,h',a,hn,⟨k,hk,_⟩,_=>by
  have a:h=P:=a
  subst a
  exact absurd hk (hn _ _)
 |x :: xs, [],P,h,h',⟨k,hk,_⟩,_,b,hn=>by
  have b:h'=P:=b
  subst b
  exact absurd hk (hn _ _)
 |x :: xs,y :: ys,P,h,h',⟨k,hk,ht⟩,hn,⟨k',hk',ht'⟩,hn'=>by
  obtain⟨rfl,rfl⟩:=hk.unique hk'
  obtain⟨rfl,rfl⟩:=Tells.unique ht hn ht' hn'
  exact⟨rfl,rfl⟩
theorem Tells.le {R:Nat→PC} {E:Nat}:∀{rs:List (List Int)} {P h:Nat},Tells R E P rs h→P≤h
 | [],P,h,a=>Nat.le_of_eq (show h=P from a).symm
 |x :: xs,P,h,⟨k,hk,ht⟩=>by have:=Tells.le ht;omega
theorem Rec.at {R:Nat→PC} {E P c:Nat} {d:List Int} (h:Rec R E P c d) {q:Nat} (h1:P≤q) (h2:q<P+c):(R q).p=q:=by
 have:=(h.2.2.1 (q-P) (by omega)).2.1
 rwa [show P+(q-P)=q by omega] at this
theorem Tells.at {R:Nat→PC} {E:Nat}:∀{rs:List (List Int)} {P h:Nat},Tells R E P rs h→∀q,P≤q→q<h→(R q).p=q
 | [],P,h,a,q,h1,h2=>by have a:h=P:=a;omega
 |x :: xs,P,h,⟨k,hk,ht⟩,q,h1,h2=>by
  by_cases h3:q<P+k
  ·exact hk.at h1 h3
  ·exact Tells.at ht q (by omega) h2
theorem Tells.round {R:Nat→PC} {E n:Nat} (hn:1≤n) (hR:∀q,R (q+n)=R q) {rs:List (List Int)} {P h:Nat} (ht:Tells R E P rs h):h≤P+n:=by
 rcases Nat.lt_or_ge (P+n) h with h1|h1
 ·have a:=ht.at P (Nat.le_refl _) (by omega)
  have b:=ht.at (P+n) (by omega) h1
  rw [hR] at b
  omega
 ·exact h1
theorem Tells.length {R:Nat→PC} {E:Nat}:∀{rs:List (List Int)} {P h:Nat},Tells R E P rs h→P+rs.length≤h
 | [],P,h,a=>Nat.le_of_eq (show h=P from a).symm
 |x :: xs,P,h,⟨k,hk,ht⟩=>by have:=Tells.length ht;have:=hk.1;simp only [List.length_cons];omega
structure Scan (R:Nat→PC) (E T:Nat) (rs:List (List Int)) (h j c:Nat) (d:List Int):Prop where
 t:Tells R E T rs h
 p:∀i,i<j→(R (h+i)).ok E (h+i) i c
 c:0<j→1≤c∧c≤17∧j<c
 d:d=dataTo R h j
theorem Scan.start (R:Nat→PC) (E T:Nat) (c:Nat):Scan R E T [] T 0 c []:=⟨rfl,fun i hi=>by omega,fun h=>by omega,rfl⟩
def dueC (R:Nat→PC) (h j c:Nat):Nat:=if j=0 then (R h).c else c
theorem Scan.grow {R:Nat→PC} {E T:Nat} {rs:List (List Int)} {h j c:Nat} {d:List Int} (s:Scan R E T rs h j c d) (hk:(R (h+j)).ok E (h+j) j (dueC R h j c)) (h1:1≤dueC R h j c) (h2:dueC R h j c≤17) (hl:j+1≠dueC R h j c) (hj:j<dueC R h j c):
  Scan R E T rs h (j+1) (dueC R h j c) (d ++ (R (h+j)).d):=by
 refine⟨s.t,fun i hi=>?_,fun _=>⟨h1,h2,by omega⟩,by rw [s.d,dataTo_succ]⟩
 by_cases e:i=j
 ·subst e;exact hk
 ·have hj0:j≠0:=by omega
  have:=s.p i (by omega)
  rwa [dueC,if_neg hj0]
theorem Scan.full {R:Nat→PC} {E T:Nat} {rs:List (List Int)} {h j c:Nat} {d:List Int} (s:Scan R E T rs h j c d) (hk:(R (h+j)).ok E (h+j) j (dueC R h j c)) (h2:dueC R h j c≤17) (hl:j+1=dueC R h j c) (c':Nat):
  Scan R E T (rs ++ [d ++ (R (h+j)).d]) (h+j+1) 0 c' []:=by
 refine⟨?_,fun i hi=>by omega,fun h=>by omega,rfl⟩
 have hr:Rec R E h (j+1) (d ++ (R (h+j)).d):=by
  refine⟨by omega,by omega,fun i hi=>?_,by rw [s.d,dataTo_succ]⟩
  by_cases e:i=j
  ·subst e;rw [hl];exact hk
  ·have:=s.p i (by omega)
   have hj0:j≠0:=by omega
   rw [hl,dueC,if_neg hj0]
   exact this
 exact s.t.snoc hr
theorem Scan.ends {R:Nat→PC} {E T:Nat} {rs:List (List Int)} {h j c:Nat} {d:List Int} (s:Scan R E T rs h j c d) (hk:¬((R (h+j)).ok E (h+j) j (dueC R h j c)∧1≤dueC R h j c∧dueC R h j c≤17)):∀c d,¬Rec R E h c d:=by
 intro k x hr
 by_cases e:j=0
 ·subst e
  refine hk ?_
  rw [dueC,if_pos rfl,hr.count]
  exact⟨hr.2.2.1 0 hr.1,hr.1,hr.2.1⟩
 ·have hc:=s.c (by omega)
  have ek:k=c:=by rw [←hr.count];simpa using (s.p 0 (by omega)).2.2.2.1
  subst ek
  refine hk ?_
  rw [dueC,if_neg e]
  exact⟨hr.2.2.1 j hc.2.2,hr.1,hr.2.1⟩
theorem Scan.at {R:Nat→PC} {E T:Nat} {rs:List (List Int)} {h j c:Nat} {d:List Int} (s:Scan R E T rs h j c d) (q:Nat) (h1:T≤q) (h2:q<h+j):(R q).p=q:=by
 by_cases h3:q<h
 ·exact s.t.at q h1 h3
 ·have:=(s.p (q-h) (by omega)).2.1
  rwa [show h+(q-h)=q by omega] at this
theorem Scan.round {R:Nat→PC} {E T n:Nat} {rs:List (List Int)} {h j c:Nat} {d:List Int} (hn:1≤n) (hR:∀q,R (q+n)=R q) (s:Scan R E T rs h j c d) (hj:h+j=T+n):∀c d,¬Rec R E h c d:=by
 refine s.ends (fun hk=>?_)
 have a:=hk.1.2.1
 rw [hj,hR] at a
 have:=s.at T (Nat.le_refl _) (by omega)
 omega
def rtop (R:Nat→PC):Nat→Nat
 |0=>0
 |k+1=>if (R k).e≤1073741824 then max (rtop R k) (R k).e else rtop R k
theorem rtop_le (R:Nat→PC):∀k,rtop R k≤1073741824
 |0=>by simp [rtop]
 |k+1=>by
  have:=rtop_le R k
  unfold rtop
  split <;> omega
theorem le_room {l:List Int} (hb:Bytes l) {k:Nat} (h:l.length≤k):le l<2 ^ (8*k):=Nat.lt_of_lt_of_le (le_lt hb) (Nat.pow_le_pow_right (by omega) (by omega))
theorem le_len2 {l:List Int} (hb:Bytes l) (h:l.length≤2):le l<65536:=le_room hb (k:=2) h
theorem le_len4 {l:List Int} (hb:Bytes l) (h:l.length≤4):le l<4294967296:=le_room hb (k:=4) h
theorem so_bytes {l:List Int} (hb:Bytes l):Bytes (sopens l).1:=by
 unfold sopens
 split
 ·exact Bytes.nil
 ·split
  ·exact Bytes.nil
  ·rename_i b h
   rw [(sopen_some h).2.2.2]
   exact(hb.drop 7).take _
theorem so_len (l:List Int):(sopens l).1.length≤504:=by
 unfold sopens
 split
 ·simp
 ·split
  ·simp
  ·rename_i h1 b h
   exact sopen_len h (by omega)
theorem pcOf_small {l:List Int} (hb:Bytes l):(pcOf l).e<4294967296∧(pcOf l).p<4294967296∧(pcOf l).i<65536∧(pcOf l).c<65536∧(pcOf l).d.length≤492∧Bytes (pcOf l).d:=by
 have h1:=so_bytes hb
 have h2:=so_len l
 unfold pcOf
 split
 ·exact⟨by decide,by decide,by decide,by decide,by decide,Bytes.nil⟩
 ·exact⟨le_len4 (h1.take _) (by simp;omega),le_len4 ((h1.drop _).take _) (by simp;omega),le_len2 ((h1.drop _).take _) (by simp;omega),le_len2 ((h1.drop _).take _) (by simp;omega),by simp [pcBody];omega,h1.drop _⟩
end Go.Proofs.YtkiehemoiapkkaaGreat
end
section
namespace Go.Proofs.YtkiehemoiapkkaaGreat
open Go.RowKit
def DS.rds (S:DS) (r:Int):DS:={S with reads:=r}
def DiskR (w:World) (F:Nat→Prop) (p s:Nat) (S:DS):Prop:=∃r,DiskAt w F p s (S.rds r)
section
variable {w w':World} {F G:Nat→Prop} {p s:Nat} {S:DS}
theorem DiskR.ok (h:DiskR w F p s S):S.Ok s:=by
 obtain⟨r,h⟩:=h
 exact⟨h.ok.len,h.ok.lo,h.ok.hi,h.ok.puts,h.ok.fuse⟩
theorem DiskR.lt (h:DiskR w F p s S):∀k,F k→k<w.heap.size:=by obtain⟨r,h⟩:=h;exact h.lt
theorem DiskR.keep (h:DiskR w F p s S) (k:Keeps G w w') (hd:∀k,F k→¬G k):DiskR w' F p s S:=by obtain⟨r,h⟩:=h;exact⟨r,h.keep k hd⟩
theorem DiskR.later (h:DiskR w F p s S) (hb:Below w.heap.size w w'):DiskR w' F p s S:=h.keep (Keeps.of_below (fun _=>False) hb) (fun _ _ h=>h)
theorem rds_wr (S:DS) (r:Int) (s:Nat) (x:Int) (n:Nat) (l:List Int):(S.rds r).wr s x n l=((S.wr s x n l).1,(S.wr s x n l).2.rds r):=by
 unfold DS.wr
 show (if S.fuse=0 then _ else _)=_
 split
 ·rfl
 ·split
  ·rfl
  ·split <;> rfl
theorem rds_fl (S:DS) (r:Int) (s:Nat):(S.rds r).fl s=((S.fl s).1,(S.fl s).2.rds r):=by
 unfold DS.fl
 show (if S.fuse=0 then _ else _)=_
 split <;> rfl
theorem rds_now (S:DS) (r:Int) (k:Nat):(S.rds r).now k=S.now k:=rfl
theorem dsectors (h:DiskR w F p s S):Calls Tryz.prog 46 #[.pointer (some ⟨p,0,none⟩)] w fun e w'=>e= .returned (.int .i64 s)∧w'=w:=by
 obtain⟨r,h⟩:=h;exact sectors_at h
theorem dburnt (h:DiskR w F p s S):Calls Tryz.prog 44 #[.pointer (some ⟨p,0,none⟩)] w fun e w'=>e= .returned (.bool (S.fuse == 0))∧w'=w:=by
 obtain⟨r,h⟩:=h;exact burnt_at (S:=S.rds r) h
theorem dlife (h:DiskR w F p s S):Calls Tryz.prog 142 #[.pointer (some ⟨p,0,none⟩)] w fun e w'=>e= .returned (.int .i64 S.life)∧w'=w:=by
 obtain⟨r,h⟩:=h;exact life_at (S:=S.rds r) h
theorem dread_dead (h:DiskR w F p s S) (x:Int) (hf:S.fuse=0):Calls Tryz.prog 102 #[.pointer (some ⟨p,0,none⟩), .int .i64 x] w fun e w'=>e= .returned (.tuple #[.slice none 0 0, .int .i64 3])∧w'=w:=by
 obtain⟨r,h⟩:=h;exact read_dead h x hf
def anew (S:DS) (s f:Nat) (num:Int):Int×DS:=
 if S.fuse=0 then (3,S) else
 if (srenew (S.now f) (S.now (f+1)) num []).2.2≠0 then (((srenew (S.now f) (S.now (f+1)) num []).2.2:Int),S) else
 if (S.wr s ((f:Int)+((srenew (S.now f) (S.now (f+1)) num []).1:Int)) 512 (srenew (S.now f) (S.now (f+1)) num []).2.1).1≠0 then S.wr s ((f:Int)+((srenew (S.now f) (S.now (f+1)) num []).1:Int)) 512 (srenew (S.now f) (S.now (f+1)) num []).2.1
 else (S.wr s ((f:Int)+((srenew (S.now f) (S.now (f+1)) num []).1:Int)) 512 (srenew (S.now f) (S.now (f+1)) num []).2.1).2.fl s
theorem drefusal (h:DiskR w F p s S) (f n:Int):Calls Tryz.prog 94 #[areaV p f n] w fun e w'=>e= .returned (.int .i64 (lrefuse S s f n))∧Below w.heap.size w w':=by
 have hs:=h.ok.hi
 obtain⟨r,h⟩:=h
 exact refusal_any h f n hs
end
end Go.Proofs.YtkiehemoiapkkaaGreat
end
section
namespace Go.Proofs.YtkiehemoiapkkaaGreat
open Go.RowKit
structure LG where
 f:Nat
 n:Nat
 life:Int
 begun:Bool
 ep:Nat
 tail:Nat
 head:Nat
 top:Nat
abbrev lgC (p:Nat) (L:LG):Array Value:= #[.pointer (some ⟨p,0,none⟩), .int .i64 (L.f:Int), .int .i64 (L.n:Int), .int .i64 L.life, .bool L.begun, .int .i64 (L.ep:Int), .int .i64 (L.tail:Int), .int .i64 (L.head:Int), .int .i64 (L.top:Int)]
def LogP (w:World) (l p:Nat) (L:LG):Prop:=w.heap[l]? =some (.cells (lgC p L) 143 (0,0))
theorem LogP.lt {w:World} {l p:Nat} {L:LG} (h:LogP w l p L):l<w.heap.size:=lt_there h
theorem LogP.keep {w w':World} {l p:Nat} {L:LG} {G:Nat→Prop} (h:LogP w l p L) (k:Keeps G w w') (hn:¬G l):LogP w' l p L:=(k.block l h.lt hn).trans h
section
variable {w:World} {l p:Nat} {L:LG}
theorem LogP.c0 (h:LogP w l p L):w.cell? ⟨l,0,none⟩=some (.pointer (some ⟨p,0,none⟩)):=cell_of_block h (j:=0) rfl
theorem LogP.c1 (h:LogP w l p L):w.cell? ⟨l,1,none⟩=some (.int .i64 (L.f:Int)):=cell_of_block h (j:=1) rfl
theorem LogP.c2 (h:LogP w l p L):w.cell? ⟨l,2,none⟩=some (.int .i64 (L.n:Int)):=cell_of_block h (j:=2) rfl
theorem LogP.c3 (h:LogP w l p L):w.cell? ⟨l,3,none⟩=some (.int .i64 L.life):=cell_of_block h (j:=3) rfl
theorem LogP.c4 (h:LogP w l p L):w.cell? ⟨l,4,none⟩=some (.bool L.begun):=cell_of_block h (j:=4) rfl
theorem LogP.c5 (h:LogP w l p L):w.cell? ⟨l,5,none⟩=some (.int .i64 (L.ep:Int)):=cell_of_block h (j:=5) rfl
theorem LogP.c6 (h:LogP w l p L):w.cell? ⟨l,6,none⟩=some (.int .i64 (L.tail:Int)):=cell_of_block h (j:=6) rfl
theorem LogP.c7 (h:LogP w l p L):w.cell? ⟨l,7,none⟩=some (.int .i64 (L.head:Int)):=cell_of_block h (j:=7) rfl
theorem LogP.c8 (h:LogP w l p L):w.cell? ⟨l,8,none⟩=some (.int .i64 (L.top:Int)):=cell_of_block h (j:=8) rfl
theorem LogP.fz (h:LogP w l p L) (j:Nat):w.frozen? ⟨l,j,none⟩=false:=frozen_of_block h j
end
structure LG.Ok (L:LG) (s:Nat):Prop where
 s:L.f+2+L.n≤s
 n1:18≤L.n
 n2:L.n≤256
 ep:L.ep≤1073741824
 top:L.top<1073741824
 th:L.tail≤L.head
 hn:L.head≤L.tail+L.n
 hi:L.head≤1073742080
 hb:L.begun=true→L.head≤1073741824
def LG.dead (L:LG) (S:DS):Bool:=S.fuse == 0 || S.life != L.life
def LG.unready (L:LG) (S:DS):Int:=if L.dead S=true then 3 else if L.begun=true then 0 else 4
section
variable {w:World} {F:Nat→Prop} {p s l:Nat} {S:DS} {L:LG}
theorem LogP.later {w w':World} {l p:Nat} {L:LG} (h:LogP w l p L) (hb:Below w.heap.size w w'):LogP w' l p L:=(hb.block l h.lt).trans h
set_option maxRecDepth 20000 in
set_option maxHeartbeats 4000000 in
theorem dead_any (h:DiskR w F p s S) (hl:LogP w l p L):
  Calls Tryz.prog 107 #[.pointer (some ⟨l,0,none⟩)] w fun e w'=>e= .returned (.bool (L.dead S))∧Below w.heap.size w w':=by
 have h1:=fun n=>dburnt (h.later (below_drewN (Below.refl w.heap.size w) n))
 have h2:=fun n=>dlife (h.later (below_drewN (Below.refl w.heap.size w) n))
 have c0:=hl.c0
 have c3:=hl.c3
 unfold LG.dead
 go_enter Tryz.func107,Tryz.ntmps107
 by_cases q:S.fuse=0
 ·rw [show (S.fuse == 0)=true by simp [q]] at h1⊢
  go_wp2_with fail
  go_quiet ((go_at_call 44;exact Calls.quiet_of_same (h1 _)))
  go_wp2
  go_ret
  exact⟨rfl,below_drewN (Below.refl _ _) _⟩
 ·rw [show (S.fuse == 0)=false by simp [q]] at h1⊢
  go_wp2_with fail
  go_quiet (first|(go_at_call 44;exact Calls.quiet_of_same (h1 _))|(go_at_call 142;exact Calls.quiet_of_same (h2 _)))
  go_wp2
  go_ret
  exact⟨rfl,below_drewN (Below.refl _ _) _⟩
set_option maxRecDepth 20000 in
set_option maxHeartbeats 4000000 in
theorem unready_any (h:DiskR w F p s S) (hl:LogP w l p L):
  Calls Tryz.prog 125 #[.pointer (some ⟨l,0,none⟩)] w fun e w'=>e= .returned (.int .i64 (L.unready S))∧Below w.heap.size w w':=by
 have h1:=dead_any h hl
 unfold LG.unready
 go_enter Tryz.func125,Tryz.ntmps125
 cases hd:L.dead S
 ·rw [hd] at h1
  cases hb:L.begun
  ·rw [if_neg (by decide),if_neg (by decide)]
   go_wp2_with fail
   refine h1.mono ?_
   rintro e w' ⟨rfl,hb'⟩
   have c4:=(hl.later hb').c4
   rw [hb] at c4
   go_wp2
   go_ret
   exact⟨rfl,hb'⟩
  ·rw [if_neg (by decide),if_pos rfl]
   go_wp2_with fail
   refine h1.mono ?_
   rintro e w' ⟨rfl,hb'⟩
   have c4:=(hl.later hb').c4
   rw [hb] at c4
   go_wp2
   go_ret
   exact⟨rfl,hb'⟩
 ·rw [hd] at h1
  rw [if_pos rfl]
  go_wp2_with fail
  refine h1.mono ?_
  rintro e w' ⟨rfl,hb'⟩
  go_wp2
  go_ret
  exact⟨rfl,hb'⟩
set_option maxRecDepth 20000 in
set_option maxHeartbeats 4000000 in
theorem room_any (hl:LogP w l p L) (hk:L.Ok s):
  Calls Tryz.prog 173 #[.pointer (some ⟨l,0,none⟩)] w fun e w'=>e= .returned (.int .i64 ((L.n:Int)-((L.head:Int)-(L.tail:Int))))∧Below w.heap.size w w':=by
 have c2:=hl.c2
 have c6:=hl.c6
 have c7:=hl.c7
 have b1:=hk.n2
 have b2:=hk.th
 have b4:=hk.hn
 go_enter Tryz.func173,Tryz.ntmps173
 go_wp2_with fail
 go_quiet (fail)
 go_wp2
 go_ret
 exact⟨rfl,below_drewN (Below.refl _ _) _⟩
def LG.room (L:LG) (S:DS):Int×Int:=if L.unready S≠0 then (0,L.unready S) else ((L.n:Int)-((L.head:Int)-(L.tail:Int)),0)
set_option maxRecDepth 20000 in
set_option maxHeartbeats 4000000 in
theorem Room_any (h:DiskR w F p s S) (hl:LogP w l p L) (hk:L.Ok s):
  Calls Tryz.prog 143 #[.pointer (some ⟨l,0,none⟩)] w fun e w'=>e= .returned (.tuple #[.int .i64 (L.room S).1, .int .i64 (L.room S).2])∧Below w.heap.size w w':=by
 have h1:=unready_any h hl
 unfold LG.room
 generalize L.unready S=U at*
 go_enter Tryz.func143,Tryz.ntmps143
 by_cases q:U=0
 ·subst q
  rw [if_neg (by decide)]
  go_wp2_with fail
  refine h1.mono ?_
  rintro e w1 ⟨rfl,hb⟩
  have HB:=hb
  go_wp2_with fail
  refine(room_any (hl.later hb) hk).mono ?_
  rintro e w2 ⟨rfl,hb⟩
  go_wp2
  go_ret2
  exact⟨rfl,(HB.trans (hb.mono HB.size))⟩
 ·rw [if_pos q]
  have d:(U == 0)=false:=by rw [beq_eq_false_iff_ne];exact q
  go_wp2_with fail
  refine h1.mono ?_
  rintro e w1 ⟨rfl,hb⟩
  go_wp2
  go_ret2
  exact⟨rfl,hb⟩
end
end Go.Proofs.YtkiehemoiapkkaaGreat
end
section
namespace Go.Proofs.YtkiehemoiapkkaaGreat
open Go.RowKit
def stepsTo (S:DS) (g:Nat→DS→Int×DS):Nat→Int×DS
 |0=>(0,S)
 |k+1=>if (stepsTo S g k).1≠0 then stepsTo S g k else g k (stepsTo S g k).2
theorem stepsTo_err {S:DS} {g:Nat→DS→Int×DS} {k:Nat} (h:(stepsTo S g k).1≠0):∀m,k≤m→stepsTo S g m=stepsTo S g k
 |0,hm=>by rw [show k=0 by omega]
 |m+1,hm=>by
  by_cases e:k=m+1
  ·rw [e]
  ·have:=stepsTo_err h m (by omega)
   show (if (stepsTo S g m).1≠0 then stepsTo S g m else g m (stepsTo S g m).2)=_
   rw [this,if_pos h]
theorem stepsTo_ok {S:DS} {g:Nat→DS→Int×DS} {k:Nat} (h:(stepsTo S g k).1=0):stepsTo S g (k+1)=g k (stepsTo S g k).2:=by
 rw [stepsTo,if_neg (by omega)]
theorem stepsTo_puts {S:DS} {g:Nat→DS→Int×DS} (hg:∀k T,(g k T).2.puts.length≤T.puts.length+1):∀k,(stepsTo S g k).2.puts.length≤S.puts.length+k
 |0=>Nat.le_refl _
 |k+1=>by
  have:=stepsTo_puts hg k (S:=S)
  have:=hg k (stepsTo S g k).2
  unfold stepsTo
  split <;> omega
def wipeTo (S:DS) (s f k:Nat):Int×DS:=stepsTo S (fun j T=>T.wr s ((f+j:Nat):Int) 512 (zs 512)) k
def awipe (S:DS) (s f n:Nat):Int×DS:=if (wipeTo S s f (n+2)).1≠0 then wipeTo S s f (n+2) else (wipeTo S s f (n+2)).2.fl s
theorem wipeTo_puts (S:DS) (s f k:Nat):(wipeTo S s f k).2.puts.length≤S.puts.length+k:=stepsTo_puts (fun _ _=>wr_puts _ _ _ _ _) k
theorem more_more {F:Nat→Prop} {w w1 w2:World} (h1:w.heap.size≤w1.heap.size) (h2:w1.heap.size≤w2.heap.size):∀k,more (more F w w1) w1 w2 k→more F w w2 k:=fun k hk=>by
 rcases hk with (hk|hk)|hk
 ·exact .inl hk
 ·exact .inr ⟨hk.1,by omega⟩
 ·exact .inr ⟨by omega,hk.2⟩
theorem more_lt {F:Nat→Prop} {w w2:World} (hl:∀k,F k→k<w.heap.size) (h2:w.heap.size≤w2.heap.size):∀k,more F w w2 k→k<w2.heap.size:=fun k hk=>by
 rcases hk with hk|hk
 ·have:=hl k hk;omega
 ·exact hk.2
end Go.Proofs.YtkiehemoiapkkaaGreat
end
section
namespace Go.Proofs.YtkiehemoiapkkaaGreat
open Go.RowKit
def DS.Byt (S:DS):Prop:=Bytes S.im∧∀q∈S.puts,Bytes q.2
theorem dsec_bytes {im:List Int} (h:Bytes im) (k:Nat):Bytes (dsec im k):=(h.drop _).take _
theorem pend_bytes {S:DS} (h:S.Byt) (k j:Nat):Bytes ((pendOf S.puts k).getD j []):=by
 rcases Nat.lt_or_ge j (pendOf S.puts k).length with hj|hj
 ·rw [List.getD,List.getElem?_eq_getElem hj,Option.getD_some]
  have hm:=List.getElem_mem hj
  unfold pendOf at hm
  obtain⟨q,hq,e⟩:=List.mem_map.1 hm
  have:=h.2 q (List.mem_filter.1 hq).1
  unfold pendOf
  rw [←e]
  exact this
 ·rw [List.getD,List.getElem?_eq_none hj]
  exact Bytes.nil
theorem cand_bytes {S:DS} (h:S.Byt) (k j:Nat):Bytes (S.cand k j):=by
 unfold DS.cand
 split
 ·exact dsec_bytes h.1 k
 ·exact pend_bytes h k _
theorem DS.Byt.now {S:DS} (h:S.Byt) (k:Nat):Bytes (S.now k):=cand_bytes h k _
theorem imOf_bytes {s:Nat} {f:Nat→List Int} (h:∀k,Bytes (f k)):Bytes (imOf s f):=by
 intro x hx
 obtain⟨k,_,hk⟩:=List.mem_flatMap.1 hx
 exact h k x hk
theorem DS.Byt.wr {S:DS} (h:S.Byt) (s:Nat) (x:Int) (n:Nat) {l:List Int} (hl:Bytes l):(S.wr s x n l).2.Byt:=by
 unfold DS.wr
 split
 ·exact h
 ·split
  ·exact h
  ·split
   ·exact h
   ·refine⟨h.1,fun q hq=>?_⟩
    rcases List.mem_append.1 hq with hq|hq
    ·exact h.2 q hq
    ·rw [List.mem_singleton.1 hq];exact hl
theorem DS.Byt.fl {S:DS} (h:S.Byt) (s:Nat):(S.fl s).2.Byt:=by
 unfold DS.fl
 split
 ·exact h
 ·exact⟨imOf_bytes h.now,fun q hq=>by cases hq⟩
theorem DS.Byt.take {S:DS} (h:S.Byt):S.take.Byt:=h
theorem stepsTo_byt {S:DS} {g:Nat→DS→Int×DS} (h:S.Byt) (hg:∀k T,T.Byt→(g k T).2.Byt):∀k,(stepsTo S g k).2.Byt
 |0=>h
 |k+1=>by
  have:=stepsTo_byt h hg k
  unfold stepsTo
  split
  ·exact this
  ·exact hg k _ this
theorem zs_bytes (n:Nat):Bytes (zs n):=by unfold zs;exact Bytes.zeros n
theorem DS.Byt.wipe {S:DS} (h:S.Byt) (s f n:Nat):(awipe S s f n).2.Byt:=by
 have h1:∀k,(wipeTo S s f k).2.Byt:=stepsTo_byt h (fun k T hT=>hT.wr s _ _ (zs_bytes _))
 unfold awipe
 split
 ·exact h1 _
 ·exact(h1 _).fl s
theorem srenew_bytes {l r:List Int} (num:Int) {dt:List Int} (hd:Bytes dt):Bytes (srenew l r num dt).2.1:=by
 have hf:∀(a b:Int),dt.length≤496→Bytes (sform (turnOf a b) (bytes8 num.toNat ++ dt)):=fun a b h=>sform_bytes ((bytes8_bytes _).append hd) (by rw [List.length_append,bytes8_len];omega) ⟨by omega,by have:=turnOf_le a b;omega⟩
 unfold srenew
 split
 ·exact Bytes.nil
 ·split
  ·exact Bytes.nil
  ·split
   ·exact Bytes.nil
   ·dsimp only
    split
    ·exact Bytes.nil
    ·split
     ·exact hf _ _ (by omega)
     ·exact hf _ _ (by omega)
theorem DS.Byt.anew {S:DS} (h:S.Byt) (s f:Nat) (num:Int):(anew S s f num).2.Byt:=by
 have h1:=h.wr s ((f:Int)+((srenew (S.now f) (S.now (f+1)) num []).1:Int)) 512 (srenew_bytes (l:=S.now f) (r:=S.now (f+1)) num Bytes.nil)
 unfold Go.Proofs.YtkiehemoiapkkaaGreat.anew
 split
 ·exact h
 ·split
  ·exact h
  ·split
   ·exact h1
   ·exact h1.fl s
theorem sseal_bytes {old body:List Int} (hb:Bytes body):Bytes (sseal old body).1:=by
 unfold sseal
 split
 ·exact Bytes.nil
 ·split
  ·exact Bytes.nil
  ·exact sform_bytes hb (by omega) ⟨by omega,by have:=turnOf_le (old.getD 0 0) (old.getD 511 0);omega⟩
theorem awipe_puts (S:DS) (s f n:Nat):(awipe S s f n).2.puts.length≤S.puts.length+n+3:=by
 have h1:=wipeTo_puts S s f (n+2)
 have h2:=fl_puts (wipeTo S s f (n+2)).2 s
 unfold awipe
 split <;> omega
end Go.Proofs.YtkiehemoiapkkaaGreat
end
section
namespace Go.Proofs.YtkiehemoiapkkaaGreat
open Go.RowKit
theorem zs_getD (n j:Nat):(zs n).getD j 0=0:=by
 unfold zs
 simp only [List.getD,List.getElem?_replicate]
 split <;> rfl
theorem bitIn_zero (k:Nat):bitIn 0 k=false:=by
 have:=bitIn_nat 0 k
 rw [show ((0:Nat):Int)=0 from rfl] at this
 rw [this]
 simp
def ebm:Nat→List Int
 |0=>zs 512
 |k+1=>turnBit (ebm k) k
theorem ebm_len:∀k,(ebm k).length=512
 |0=>zs_len 512
 |k+1=>turnBit_len.trans (ebm_len k)
theorem ebm_bytes:∀k,Bytes (ebm k)
 |0=>zs_bytes 512
 |k+1=>turnBit_bytes (ebm_bytes k)
theorem ebm_bit:∀k,k≤4096→∀i,bitOf (ebm k) i=decide (i<k)
 |0,_,i=>by
  show bitIn ((zs 512).getD (i / 8) 0) (i%8)=_
  rw [zs_getD,bitIn_zero]
  simp
 |k+1,hk,i=>by
  show bitOf (turnBit (ebm k) k) i=_
  rw [turnBit_bit (ebm_bytes k) (by rw [ebm_len];omega),ebm_bit k (by omega),ebm_bit k (by omega)]
  by_cases e:i=k
  ·subst e;simp
  ·rw [if_neg e]
   apply decide_eq_decide.2
   omega
def lowBit (l:List Int) (a:Nat):Nat→Option Nat
 |0=>none
 |n+1=>if bitOf l a=false then some a else lowBit l (a+1) n
theorem lowBit_none {l:List Int}:∀{n a:Nat},lowBit l a n=none→∀i,a≤i→i<a+n→bitOf l i=true
 |0,a,_,i,h1,h2=>by omega
 |n+1,a,h,i,h1,h2=>by
  unfold lowBit at h
  split at h
  ·cases h
  ·rename_i h3
   by_cases e:i=a
   ·subst e;simpa using h3
   ·exact lowBit_none h i (by omega) (by omega)
theorem lowBit_some {l:List Int}:∀{n a b:Nat},lowBit l a n=some b→a≤b∧b<a+n∧bitOf l b=false∧∀i,a≤i→i<b→bitOf l i=true
 |0,a,b,h=>by cases h
 |n+1,a,b,h=>by
  unfold lowBit at h
  split at h
  ·rename_i h3
   cases h
   exact⟨Nat.le_refl _,by omega,h3,fun i h1 h2=>by omega⟩
  ·rename_i h3
   obtain⟨h4,h5,h6,h7⟩:=lowBit_some h
   refine⟨by omega,by omega,h6,fun i h1 h2=>?_⟩
   by_cases e:i=a
   ·subst e;simpa using h3
   ·exact h7 i (by omega) h2
theorem lowBit_skip {l:List Int}:∀{k n a:Nat},(∀i,a≤i→i<a+k→bitOf l i=true)→lowBit l a (k+n)=lowBit l (a+k) n
 |0,n,a,_=>by rw [Nat.zero_add,Nat.add_zero]
 |k+1,n,a,h=>by
  rw [show k+1+n=(k+n)+1 by omega]
  show (if bitOf l a=false then some a else lowBit l (a+1) (k+n))=_
  rw [if_neg (by rw [h a (by omega) (by omega)];decide),lowBit_skip (fun i h1 h2=>h i (by omega) (by omega))]
  congr 1
  omega
end Go.Proofs.YtkiehemoiapkkaaGreat
end
section
namespace Go.Proofs.YtkiehemoiapkkaaGreat
open Go.RowKit
abbrev gave (x:Int):List PanicEntry:= [{v:= .iface 39 (.int .i64 x),recovered:=false}]
theorem haltOn_ok (w:World):Calls Tryz.prog 62 #[.int .i64 0] w fun e w'=>e= .returned (.tuple #[])∧w'=w:=by
 go_enter Tryz.func62,Tryz.ntmps62
 go_wp2
 go_end0
 exact⟨rfl,rfl⟩
theorem haltOn_no (w:World) (x:Int) (hx:x≠0):Calls Tryz.prog 62 #[.int .i64 x] w fun e w'=>e= .panicked (gave x)∧w'=w:=by
 have d:(x != 0)=true:=by rw [bne_iff_ne];exact hx
 clear hx
 go_enter Tryz.func62,Tryz.ntmps62
 go_wp2
 exact⟨rfl,rfl,rfl⟩
theorem haltIf_f (w:World) (x:Int):Calls Tryz.prog 147 #[.bool false, .int .i64 x] w fun e w'=>e= .returned (.tuple #[])∧w'=w:=by
 go_enter Tryz.func147,Tryz.ntmps147
 go_wp2
 go_end0
 exact⟨rfl,rfl⟩
theorem haltIf_t (w:World) (x:Int):Calls Tryz.prog 147 #[.bool true, .int .i64 x] w fun e w'=>e= .panicked (gave x)∧w'=w:=by
 go_enter Tryz.func147,Tryz.ntmps147
 go_wp2
 exact⟨rfl,rfl,rfl⟩
theorem haltGot_ok (w:World) (a:Option Addr) (n c:Nat):Calls Tryz.prog 174 #[.slice a n c, .int .i64 0] w fun e w'=>e= .returned (.slice a n c)∧w'=w:=by
 have h1:=haltOn_ok w
 go_enter Tryz.func174,Tryz.ntmps174
 go_wp2_with fail
 refine h1.mono ?_
 rintro e w1 ⟨rfl,hw⟩
 have hw':=hw.symm
 subst hw'
 clear h1 hw
 go_wp2
 go_ret
 exact⟨rfl,rfl⟩
theorem haltGot_no (w:World) (v:Value) (x:Int) (hx:x≠0):Calls Tryz.prog 174 #[v, .int .i64 x] w fun e w'=>e= .panicked (gave x)∧w'=w:=by
 have h1:=haltOn_no w x hx
 go_enter Tryz.func174,Tryz.ntmps174
 go_wp2_with fail
 refine h1.mono ?_
 rintro e w1 ⟨rfl,hw⟩
 have hw':=hw.symm
 subst hw'
 exact⟨rfl,rfl,rfl⟩
theorem div8 (i:Nat):(i:Int).tdiv 8=((i / 8:Nat):Int):=by
 rw [Int.tdiv_eq_ediv_of_nonneg (by omega)]
 omega
theorem mod8 (i:Nat):(i:Int).tmod 8=((i%8:Nat):Int):=by
 rw [Int.tmod_eq_emod_of_nonneg (by omega)]
 omega
set_option maxRecDepth 20000 in
theorem ptaken_any {w:World} {E:TypeId} {g c:Nat} {l:List Int} (hb:w.heap[g]? =some (.cells (bs l).toArray E (0,0))) (hl:l.length=512) (hby:Bytes l) (i:Nat) (hi:i<4096):
  Calls Tryz.prog 146 #[.slice (some ⟨g,0,none⟩) 512 c, .int .i64 (i:Int)] w fun e w'=>e= .returned (.bool (bitOf l i))∧w'=w:=by
 have hi8:i / 8<512:=by omega
 have hc:w.cell? ⟨g,i / 8,none⟩=some (.int .u8 (l.getD (i / 8) 0)):=cell_of_block hb (by simp [bs,List.getD,hl,hi8])
 have e1:=div8 i
 have e2:=mod8 i
 have e3:=bit_and (k:=i%8) (getD_byte hby (i / 8))
 have e4:wrap64 (((i / 8:Nat):Int))=((i / 8:Nat):Int):=by unfold wrap64;omega
 have e5:(0:Int)≤((i%8:Nat):Int):=by omega
 have e6:((i%8:Nat):Int)≤8:=by omega
 have e7:(((i / 8:Nat):Int))<512:=by omega
 have e8:(0:Int)≤((i / 8:Nat):Int):=by omega
 unfold bitOf
 clear hb hl hby hi
 generalize l.getD (i / 8) 0=x at*
 obtain⟨a,ha⟩:∃a,a=i / 8:=⟨_,rfl⟩
 obtain⟨k,hk⟩:∃k,k=i%8:=⟨_,rfl⟩
 rw [←ha] at hc e1 e4 e7 e8 hi8
 rw [←hk] at e2 e3 e5 e6
 rw [←hk]
 clear ha hk
 go_enter Tryz.func146,Tryz.ntmps146
 go_wp2
 go_ret
 exact⟨rfl,rfl⟩
theorem bs_set (l:List Int) (j:Nat) (x:Int):(bs l).toArray.setIfInBounds j (.int .u8 x)=(bs (l.set j x)).toArray:=by
 simp [bs,List.map_set]
set_option maxRecDepth 20000 in
theorem pturn_any {w:World} {E:TypeId} {g c:Nat} {l:List Int} (hb:w.heap[g]? =some (.cells (bs l).toArray E (0,0))) (hl:l.length=512) (hby:Bytes l) (i:Nat) (hi:i<4096):
  Calls Tryz.prog 64 #[.slice (some ⟨g,0,none⟩) 512 c, .int .i64 (i:Int)] w fun e w'=>e= .returned (.tuple #[])∧w'.heap[g]? =some (.cells (bs (turnBit l i)).toArray E (0,0))∧Keeps (fun k=>k=g) w w':=by
 have hi8:i / 8<512:=by omega
 have hc:w.cell? ⟨g,i / 8,none⟩=some (.int .u8 (l.getD (i / 8) 0)):=cell_of_block hb (by simp [bs,List.getD,hl,hi8])
 have hfr:=frozen_of_block hb (i / 8)
 have e1:=div8 i
 have e2:=mod8 i
 have e3:=turn_xor (k:=i%8) (getD_byte hby (i / 8)) (by omega)
 have e4:wrap64 (((i / 8:Nat):Int))=((i / 8:Nat):Int):=by unfold wrap64;omega
 have e5:(0:Int)≤((i%8:Nat):Int):=by omega
 have e6:((i%8:Nat):Int)≤8:=by omega
 have e7:(((i / 8:Nat):Int))<512:=by omega
 have e8:(0:Int)≤((i / 8:Nat):Int):=by omega
 have e9:(2:Int) ^ (i%8)%256=2 ^ (i%8):=by
  have:2 ^ (i%8)≤2 ^ 7:=Nat.pow_le_pow_right (by omega) (by omega)
  rw [←pow_cast]
  generalize 2 ^ (i%8)=z at*
  omega
 have HN:Hid ((w.setCell ⟨g,i / 8,none⟩ (.int .u8 (turnOne (l.getD (i / 8) 0) (i%8)))).heap[g]? =some (.cells (bs (turnBit l i)).toArray E (0,0))∧Keeps (fun k=>k=g) w (w.setCell ⟨g,i / 8,none⟩ (.int .u8 (turnOne (l.getD (i / 8) 0) (i%8))))):=
    ⟨(heap_setCell_same _ _ _ _ _ _ hb).trans (by rw [bs_set];rfl),Keeps.setCell (F:=fun k=>k=g) w (p:=⟨g,i / 8,none⟩) rfl _⟩
 obtain⟨L,hL⟩:∃L,L=(bs (turnBit l i)).toArray:=⟨_,rfl⟩
 rw [←hL] at HN
 rw [←hL]
 clear hb hl hby hi hL
 generalize l.getD (i / 8) 0=x at*
 obtain⟨a,ha⟩:∃a,a=i / 8:=⟨_,rfl⟩
 obtain⟨k,hk⟩:∃k,k=i%8:=⟨_,rfl⟩
 rw [←ha] at hc hfr e1 e4 e7 e8 hi8 HN
 rw [←hk] at e2 e3 e5 e6 e9 HN
 clear ha hk
 go_enter Tryz.func64,Tryz.ntmps64
 go_region
 go_end0
 exact⟨rfl,HN.out.1,HN.out.2.trans (Keeps.drew (fun _=>False) _) (fun _ h=>h.elim)⟩
end Go.Proofs.YtkiehemoiapkkaaGreat
end
section
namespace Go.Proofs.YtkiehemoiapkkaaGreat
open Go.RowKit
set_option maxRecDepth 20000 in
set_option maxHeartbeats 4000000 in
theorem ebm_any (w:World) (k:Nat) (hk:k≤4096):
  Calls Tryz.prog 28 #[.int .i64 (k:Int)] w fun e w'=>∃g,e= .returned (.slice (some ⟨g,0,none⟩) 512 512)∧w.heap.size≤g∧w'.heap[g]? =some (.cells (bs (ebm k)).toArray 5 (0,0))∧Below w.heap.size w w':=by
 have hmk:=run_make_row' (P:=Tryz.prog) 64 5 (.int .u8 0) 1 Tryz.underlying64 infoU8 rfl .i64 .i64 512 (by omega) (by omega) w
 rw [show ((512:Nat):Int)=512 from rfl] at hmk
 obtain⟨w1,hw1⟩:∃w1,w1=w.alloc (.cells (madeCells #[.int .u8 0] 512) 5):=⟨_,rfl⟩
 have hb0:w1.heap[w.heap.size]? =some (.cells (bs (ebm 0)).toArray 5 (0,0)):=by
  have hr:RowAt w1 5 w.heap.size 512 (bs (zs 512)):=by
   rw [hw1]
   exact made_row (World.ownsRow_lit (base:=w.heap.size) w (madeCells #[.int .u8 0] 512) 512 (Nat.le_refl _) (by unfold maxLen;omega) (by simp [madeCells]))
  exact hr.full (by rw [bs,List.length_map,zs_len])
 have hB1:Below w.heap.size w w1:=by rw [hw1];exact below_box _ _
 rw [←hw1] at hmk
 have H0:=Hid.mk (And.intro hb0 hB1)
 clear hb0 hB1 hw1
 go_enter Tryz.func28,Tryz.ntmps28
 go_wp2
 go_loopw [7] (fun iv wr=>∃j:Nat,j≤k∧iv= .int .i64 (j:Int)∧wr.heap[w.heap.size]? =some (.cells (bs (ebm j)).toArray 5 (0,0))∧Below w.heap.size w wr) (fun iv _=>k-(intOf iv).toNat)
 case atStart=>exact⟨0,Nat.zero_le _,rfl,H0.out.1,H0.out.2⟩
 case round=>
  obtain⟨j,hj,rfl,hb,hB⟩:=hrel
  by_cases hlt:j<k
  ·have hlt':(j:Int)<(k:Int):=by omega
   have h1:=pturn_any (c:=512) hb (ebm_len j) (ebm_bytes j) j (by omega)
   have HB:=Hid.mk hB
   clear hb hB
   go_wp2_with fail
   refine h1.mono ?_
   rintro e w2 ⟨rfl,hb2,hk2⟩
   have HN:Hid (w2.heap[w.heap.size]? =some (.cells (bs (ebm (j+1))).toArray 5 (0,0))∧Below w.heap.size w w2):=⟨hb2,HB.out.trans (hk2.below (fun q hq=>by omega) HB.out.size)⟩
   clear h1 hb2 hk2
   go_wp2
   go_roundw
   case rel=>exact⟨j+1,by omega,by go_num,HN.out.1,HN.out.2⟩
   case measure=>simp [intOf];omega
  ·obtain rfl:j=k:=by omega
   have hlt':¬(j:Int)<(j:Int):=by omega
   have HN:=Hid.mk (And.intro hb hB)
   clear hb hB
   go_wp2
   go_ret
   exact⟨w.heap.size,rfl,Nat.le_refl _,HN.out.1,HN.out.2⟩
end Go.Proofs.YtkiehemoiapkkaaGreat
end
section
namespace Go.Proofs.YtkiehemoiapkkaaGreat
open Go.RowKit
abbrev CM:=List (Nat×List Int)
def CM.get:CM→Nat→Option (List Int)
 | [],_=>none
 |q :: qs,k=>if q.1=k then some q.2 else CM.get qs k
def CM.put:CM→Nat→List Int→CM
 | [],k,c=> [(k,c)]
 |q :: qs,k,c=>if k<q.1 then (k,c) :: q :: qs else if k=q.1 then (k,c) :: qs else q :: CM.put qs k c
def CM.Ok (ms:CM):Prop:=ms.Pairwise (fun a b=>a.1<b.1)
def CM.keys (ms:CM):List Nat:=ms.map (·.1)
namespace CM
theorem get_cons (q:Nat×List Int) (qs:CM) (k:Nat):get (q :: qs) k=if q.1=k then some q.2 else get qs k:=rfl
theorem get_none_of {ms:CM} {k:Nat} (h:∀q∈ms,q.1≠k):get ms k=none:=by
 induction ms with
 |nil=>rfl
 |cons q qs ih=>
  unfold get
  rw [if_neg (h q List.mem_cons_self)]
  exact ih (fun x hx=>h x (List.mem_cons_of_mem _ hx))
theorem get_mem {ms:CM} {k:Nat} {c:List Int} (h:get ms k=some c):(k,c)∈ms:=by
 induction ms with
 |nil=>cases h
 |cons q qs ih=>
  unfold get at h
  split at h
  ·rename_i e
   cases h
   rw [←e]
   exact List.mem_cons_self
  ·exact List.mem_cons_of_mem _ (ih h)
theorem get_of_mem {ms:CM} (ho:Ok ms) {k:Nat} {c:List Int} (h:(k,c)∈ms):get ms k=some c:=by
 induction ms with
 |nil=>cases h
 |cons q qs ih=>
  unfold get
  rcases List.mem_cons.1 h with e|h1
  ·rw [←e,if_pos rfl]
  ·have:=(List.pairwise_cons.1 ho).1 (k,c) h1
   rw [if_neg (by simp only at this;omega)]
   exact ih (List.pairwise_cons.1 ho).2 h1
theorem get_put (ms:CM) (k:Nat) (c:List Int) (j:Nat) (ho:Ok ms):get (put ms k c) j=if j=k then some c else get ms j:=by
 induction ms with
 |nil=>
  unfold put
  simp only [get]
  by_cases e:j=k
  ·rw [if_pos e.symm,if_pos e]
  ·rw [if_neg (fun h=>e h.symm),if_neg e]
 |cons q qs ih=>
  unfold put
  by_cases h1:k<q.1
  ·rw [if_pos h1]
   by_cases e:j=k
   ·rw [if_pos e]
    unfold get
    rw [if_pos e.symm]
   ·rw [if_neg e]
    conv=>lhs;unfold get
    rw [if_neg (fun h=>e h.symm)]
  ·rw [if_neg h1]
   by_cases h2:k=q.1
   ·rw [if_pos h2]
    by_cases e:j=k
    ·rw [if_pos e]
     unfold get
     rw [if_pos e.symm]
    ·rw [if_neg e]
     conv=>lhs;unfold get
     conv=>rhs;unfold get
     rw [if_neg (fun h=>e h.symm),if_neg (fun h=>e (h2▸h.symm))]
   ·rw [if_neg h2]
    conv=>lhs;unfold get
    by_cases e:q.1=j
    ·rw [if_pos e,if_neg (fun h=>h2 (h.symm.trans e.symm))]
     conv=>rhs;unfold get
     rw [if_pos e]
    ·rw [if_neg e,ih (List.pairwise_cons.1 ho).2]
     conv=>rhs;rhs;unfold get
     rw [if_neg e]
theorem put_key {ms:CM} {k:Nat} {c:List Int} {q:Nat×List Int} (h:q∈put ms k c):q=(k,c)∨q∈ms:=by
 induction ms with
 |nil=>
  unfold put at h
  exact .inl (List.mem_singleton.1 h)
 |cons x xs ih=>
  unfold put at h
  split at h
  ·rcases List.mem_cons.1 h with h|h
   ·exact .inl h
   ·exact .inr h
  ·split at h
   ·rcases List.mem_cons.1 h with h|h
    ·exact .inl h
    ·exact .inr (List.mem_cons_of_mem _ h)
   ·rcases List.mem_cons.1 h with h|h
    ·exact .inr (h▸List.mem_cons_self)
    ·exact(ih h).imp id (List.mem_cons_of_mem _)
theorem put_ok {ms:CM} (ho:Ok ms) (k:Nat) (c:List Int):Ok (put ms k c):=by
 induction ms with
 |nil=>exact List.pairwise_singleton _ _
 |cons x xs ih=>
  have hq:=List.pairwise_cons.1 ho
  unfold put
  split
  ·rename_i h
   refine List.pairwise_cons.2 ⟨fun y hy=>?_,ho⟩
   rcases List.mem_cons.1 hy with rfl|hy
   ·exact h
   ·exact Nat.lt_trans h (hq.1 y hy)
  ·split
   ·rename_i h
    exact List.pairwise_cons.2 ⟨fun y hy=>by show k<y.1;rw [h];exact hq.1 y hy,hq.2⟩
   ·rename_i h1 h2
    refine List.pairwise_cons.2 ⟨fun y hy=>?_,ih hq.2⟩
    rcases put_key hy with rfl|hy
    ·show x.1<k
     omega
    ·exact hq.1 y hy
theorem put_length {ms:CM} (ho:Ok ms) (k:Nat) (c:List Int):(put ms k c).length=if (get ms k).isSome then ms.length else ms.length+1:=by
 induction ms with
 |nil=>rfl
 |cons x xs ih=>
  have hq:=List.pairwise_cons.1 ho
  unfold put
  by_cases h1:k<x.1
  ·rw [if_pos h1,get_none_of (fun q hm=>by
    rcases List.mem_cons.1 hm with rfl|hm
    ·omega
    ·have:=hq.1 q hm;omega)]
   rfl
  ·rw [if_neg h1]
   by_cases h2:k=x.1
   ·rw [if_pos h2]
    unfold get
    rw [if_pos h2.symm]
    rfl
   ·rw [if_neg h2]
    have e:get (x :: xs) k=get xs k:=by rw [get_cons,if_neg (fun h=>h2 h.symm)]
    rw [e,List.length_cons,ih hq.2,List.length_cons]
    split <;> rfl
theorem keys_ok {ms:CM} (ho:Ok ms):(keys ms).Pairwise (·< ·):=List.Pairwise.map _ (fun _ _ h=>h) ho
def over (ms ns:CM):CM:=ns.foldl (fun m q=>put m q.1 q.2) ms
theorem over_ok {ms:CM} (ho:Ok ms):∀(ns:CM),Ok (over ms ns):=fun ns=>by
 induction ns generalizing ms with
 |nil=>exact ho
 |cons q qs ih=>exact ih (put_ok ho _ _)
end CM
end Go.Proofs.YtkiehemoiapkkaaGreat
end
section
namespace Go.Proofs.YtkiehemoiapkkaaGreat
open Go.RowKit Go.Maps
open Go.ChangeMaps (setBlock heap_setBlock_same heap_setBlock_other)
def Ra (v:Value):Option (DataW Value×List MemPlace):=
 match v with
 | .agg _=>some (.held v, [])
 |_=>none
theorem Ra_inv {v:Value} {d:DataW Value} {ps:List MemPlace} (h:Ra v=some (d,ps)):d= .held v∧ps= []:=by
 unfold Ra at h
 split at h
 ·simp only [Option.some.injEq,Prod.mk.injEq] at h
  exact⟨h.1.symm,h.2.symm⟩
 ·cases h
abbrev cV (c:List Int):Value:= .agg (bs c).toArray
def conV:Option (List Int)→Value
 |some c=>cV c
 |none=> .agg zsec
theorem held_inj {a b:Value} (h:(DataW.held a:DataW Value)= .held b):a=b:=by injection h
theorem tuple_same {a b:Value} (x:Bool) (w:World) (h:a=b):(Result.ok (Value.tuple #[a, .bool x]) w:Result Value)= .ok (.tuple #[b, .bool x]) w:=by rw [h]
theorem infoCon:(Tryz.prog.info? 113).map (fun i=>(i.zero,i.size))=some (some (.agg zsec),512):=by kernel_rfl
theorem zeroCon (w:World):(zeroValue 113).run Tryz.prog w= .ok (.agg zsec) w:=by
 obtain⟨i,hi,he⟩:=Option.map_eq_some_iff.1 infoCon
 simp only [Prod.mk.injEq] at he
 simp [zeroValue,typeInfo,hi,he.1]
structure ChAt (w:World) (m:Nat) (ms:CM) (D:DataW Value):Prop where
 own:w.ownsMap Tryz.prog 3 Ra m ms.length D
 siz:Maps.size D=ms.length
 key:∀kl,Maps.has D kl=true→∃k:Nat,kl=kk k∧(CM.get ms k).isSome=true
 at':∀k c,CM.get ms k=some c→Maps.has D (kk k)=true∧∀z,D.atKey (kk k) z= .held (cV c)
 no:∀k,CM.get ms k=none→Maps.has D (kk k)=false∧∀z,D.atKey (kk k) z=z
 ok:CM.Ok ms
 len:∀q∈ms,q.1<2048∧q.2.length=512∧Bytes q.2
def Ch (w:World) (m:Nat) (ms:CM):Prop:=∃D,ChAt w m ms D
section
variable {w w':World} {m:Nat} {ms:CM} {D:DataW Value}
theorem kk_inj {a b:Nat} (h:kk a=kk b):a=b:=by
 unfold kk at h
 injection h with _ h
 omega
theorem ownsMapA_agree {n:Nat} (h:w.ownsMap Tryz.prog 3 Ra m n D) (hb:w'.heap[m]? =w.heap[m]?):w'.ownsMap Tryz.prog 3 Ra m n D:=by
 obtain⟨es,clock,h1,h2⟩:=h
 exact⟨es,clock,hb.trans h1,h2⟩
theorem ChAt.agree (h:ChAt w m ms D) (hb:w'.heap[m]? =w.heap[m]?):ChAt w' m ms D:=⟨ownsMapA_agree h.own hb,h.siz,h.key,h.at',h.no,h.ok,h.len⟩
theorem ChAt.lt (h:ChAt w m ms D):m<w.heap.size:=h.own.lt
theorem Ch.lt (h:Ch w m ms):m<w.heap.size:=by obtain⟨D,h⟩:=h;exact h.lt
theorem Ch.ok (h:Ch w m ms):CM.Ok ms:=by obtain⟨D,h⟩:=h;exact h.ok
theorem Ch.len (h:Ch w m ms):∀q∈ms,q.1<2048∧q.2.length=512∧Bytes q.2:=by obtain⟨D,h⟩:=h;exact h.len
theorem Ch.agree (h:Ch w m ms) (hb:w'.heap[m]? =w.heap[m]?):Ch w' m ms:=by obtain⟨D,h⟩:=h;exact⟨D,h.agree hb⟩
theorem Ch.keep {G:Nat→Prop} (h:Ch w m ms) (hk:Keeps G w w') (hn:¬G m):Ch w' m ms:=h.agree (hk.block m h.lt hn)
theorem Ch.later (h:Ch w m ms) (hb:Below w.heap.size w w'):Ch w' m ms:=h.agree (hb.block m h.lt)
theorem Ch.made (w:World):Ch (w.alloc (.map #[] 0)) w.heap.size []:=
   ⟨.map [],World.ownsMap_made w _ _ _,rfl,(fun kl h=>by simp [Maps.has] at h),(fun k c h=>by cases h),(fun k _=>⟨rfl,fun z=>rfl⟩),List.Pairwise.nil,(fun q hq=>by cases hq)⟩
theorem CM.length_le:∀{ms:CM} {n:Nat},CM.Ok ms→(∀q∈ms,q.1<n)→(∀a,(∀q∈ms,a≤q.1)→ms.length+a≤n∨ms= [])
 | [],_,_,_,_,_=> .inr rfl
 |q :: qs,n,ho,hl,a,ha=>by
  have p:=List.pairwise_cons.1 ho
  have h1:=hl q List.mem_cons_self
  have h2:=ha q List.mem_cons_self
  rcases CM.length_le (n:=n) p.2 (fun x hx=>hl x (List.mem_cons_of_mem _ hx)) (q.1+1) (fun x hx=>p.1 x hx) with h|h
  ·left
   rw [List.length_cons]
   omega
  ·left
   rw [h]
   simp only [List.length_cons,List.length_nil]
   omega
theorem Ch.small (h:Ch w m ms):ms.length≤2048:=by
 rcases CM.length_le h.ok (fun q hq=>(h.len q hq).1) 0 (fun _ _=>Nat.zero_le _) with h1|h1
 ·omega
 ·rw [h1];exact Nat.zero_le _
theorem Ch.look (h:Ch w m ms) (k:Nat) (hk:k<2048):
    (Instr.lookup 94 (.map (some m)) (.int .i64 (k:Int)) true).run Tryz.prog w= .ok (.tuple #[conV (CM.get ms k), .bool (CM.get ms k).isSome]) w:=by
 obtain⟨D,h⟩:=h
 obtain⟨v,ps,hrun,hv⟩:=h.own.look_ok keyInt Tryz.underlying94 (zeroCon w) (zd:= .held (.agg zsec)) (zp:= []) rfl (keyOf_nat k hk)
 rw [hrun]
 cases hg:CM.get ms k with
 |none=>
  obtain⟨h1,h2⟩:=h.no k hg
  rw [h2] at hv
  obtain⟨h3,_⟩:=Ra_inv hv
  rw [h1]
  exact tuple_same _ _ (held_inj h3).symm
 |some c=>
  obtain⟨h1,h2⟩:=h.at' k c hg
  rw [h2] at hv
  obtain⟨h3,_⟩:=Ra_inv hv
  rw [h1]
  exact tuple_same _ _ (held_inj h3).symm
theorem Ch.read (h:Ch w m ms) (k:Nat) {c:List Int} (hc:CM.get ms k=some c):
    (Instr.lookup 94 (.map (some m)) (.int .i64 (k:Int)) false).run Tryz.prog w= .ok (cV c) w:=by
 obtain⟨D,h⟩:=h
 obtain⟨v,ps,hrun,hv⟩:=h.own.lookup keyInt Tryz.underlying94 (zeroCon w) (zd:= .held (.agg zsec)) (zp:= []) rfl (keyOf_nat k ((h.len _ (CM.get_mem hc)).1))
 rw [hrun]
 rw [(h.at' k c hc).2] at hv
 obtain⟨h3,_⟩:=Ra_inv hv
 exact congrArg (fun z=>Result.ok z w) (held_inj h3).symm
theorem Ch.store (h:Ch w m ms) (k:Nat) (hk:k<2048) (c:List Int) (hc:c.length=512) (hb:Bytes c):
  ∃w',(Instr.mapUpdate 94 (.map (some m)) (.int .i64 (k:Int)) (cV c)).run Tryz.prog w= .ok () w'∧Ch w' m (CM.put ms k c)∧Keeps (fun b=>b=m) w w'∧w'.heap.size=w.heap.size:=by
 have hsm:=h.small
 obtain⟨D,h⟩:=h
 obtain⟨w',hrun,hm,hg⟩:=h.own.store keyInt Tryz.underlying94 (by unfold maxLen;omega) (keyOf_nat k hk) (show Ra (cV c)=some (.held (cV c), []) from rfl)
 have hD:=h.own.isMap
 have hkey:WideAt.IsKeyLit (kk k):=trivial
 have hgr:=hg.grown
 have hsz:Maps.size (D.put (kk k) (.held (cV c)))=(CM.put ms k c).length:=by
  rw [size_put (h.own.tidy keyInt),CM.put_length h.ok,h.siz]
  cases hgk:CM.get ms k with
  |none=>rw [(h.no k hgk).1];rfl
  |some x=>rw [(h.at' k x hgk).1];rfl
 refine⟨w',hrun,⟨D.put (kk k) (.held (cV c)),?_,hsz,fun kl hkl=>?_,fun j x hj=>?_,fun j hj=>?_,CM.put_ok h.ok _ _,fun q hq=>?_⟩,⟨hgr.os,hgr.tape,hgr.output,hgr.size,fun b hb' hn=>hgr.block b hb' (fun e=>hn (by injection e))⟩,?_⟩
 ·obtain⟨es,clock,h1,h2,h3,h4⟩:=hm
  refine⟨es,clock,h1,h2,?_,h4⟩
  rw [←hsz,h4]
  simp [Maps.size,length_sorted]
 ·by_cases he:kl=kk k
  ·exact⟨k,he,by rw [CM.get_put _ _ _ _ h.ok,if_pos rfl];rfl⟩
  ·rw [has_put_other he] at hkl
   obtain⟨j,rfl,hj⟩:=h.key kl hkl
   refine⟨j,rfl,?_⟩
   rw [CM.get_put _ _ _ _ h.ok,if_neg (fun e=>he (by rw [e]))]
   exact hj
 ·rw [CM.get_put _ _ _ _ h.ok] at hj
  by_cases e:j=k
  ·rw [if_pos e] at hj
   cases hj
   subst e
   exact⟨has_put_same hD hkey _,fun z=>atKey_put_same hD hkey _ z⟩
  ·rw [if_neg e] at hj
   have hne:kk j≠kk k:=fun e'=>e (kk_inj e')
   exact⟨by rw [has_put_other hne];exact(h.at' j x hj).1,fun z=>by rw [atKey_put_other hne];exact(h.at' j x hj).2 z⟩
 ·rw [CM.get_put _ _ _ _ h.ok] at hj
  by_cases e:j=k
  ·rw [if_pos e] at hj;cases hj
  ·rw [if_neg e] at hj
   have hne:kk j≠kk k:=fun e'=>e (kk_inj e')
   exact⟨by rw [has_put_other hne];exact(h.no j hj).1,fun z=>by rw [atKey_put_other hne];exact(h.no j hj).2 z⟩
 ·rcases CM.put_key hq with rfl|hq
  ·exact⟨hk,hc,hb⟩
  ·exact h.len q hq
 ·obtain⟨es,clock,es',clock',_,e⟩:=hg
  rw [e]
  simp [setBlock]
theorem Ch.length (h:Ch w m ms) (ty:TypeId):(Builtin.len_ #[94] ty #[.map (some m)]).run Tryz.prog w= .ok (.int .i64 (ms.length:Int)) w:=by
 obtain⟨D,h⟩:=h
 rw [h.own.len Tryz.underlying94 ty,h.siz]
theorem Ch.cleared (h:Ch w m ms):∃w',(∀ty,(Builtin.clear_ #[94] ty #[.map (some m)]).run Tryz.prog w= .ok (.tuple #[]) w')∧Ch w' m []∧Keeps (fun k=>k=m) w w'∧w'.heap.size=w.heap.size:=by
 obtain⟨D,h⟩:=h
 obtain⟨es,clock,hb,F,_,_⟩:=h.own
 refine⟨setBlock w m (.map #[] clock),?_,⟨.map [],⟨#[],clock,heap_setBlock_same hb _,⟨by simp,?_,by simp⟩,by simp,by simp⟩,rfl,(fun kl h=>by simp [Maps.has] at h),(fun k c h=>by cases h),(fun k _=>⟨rfl,fun z=>rfl⟩),List.Pairwise.nil,(fun q hq=>by cases hq)⟩,⟨rfl,rfl,rfl,by simp [setBlock],fun k _ hk=>heap_setBlock_other hb _ hk⟩,by simp [setBlock]⟩
 ·intro ty
  simp [Builtin.clear_,go_sem,MapKept.run_getObj_map hb,MapKept.run_setObj_map _ hb,setBlock]
 ·exact MapKept.stamped_empty _
end
end Go.Proofs.YtkiehemoiapkkaaGreat
end
section
namespace Go.Proofs.YtkiehemoiapkkaaGreat
open Go.RowKit Go.Maps
end Go.Proofs.YtkiehemoiapkkaaGreat
end
section
namespace Go.Proofs.YtkiehemoiapkkaaGreat
open Go.RowKit
def lformat (S:DS) (s:Nat) (f n:Int):Int×DS:=
 if lrefuse S s f n≠0 then (lrefuse S s f n,S) else
 if (awipe S.take s f.toNat n.toNat).1≠0 then awipe S.take s f.toNat n.toNat else anew (awipe S.take s f.toNat n.toNat).2 s f.toNat 4294967296
theorem lrefuse_zero {S:DS} {s:Nat} {f n:Int} (h:lrefuse S s f n=0):S.fuse≠0∧∃a b:Nat,f=(a:Int)∧n=(b:Int)∧a+2+b≤s∧18≤b∧b≤256:=by
 unfold lrefuse at h
 split at h
 ·omega
 ·rename_i h1
  split at h
  ·omega
  ·split at h
   ·omega
   ·split at h
    ·omega
    ·exact⟨h1,f.toNat,n.toNat,by omega,by omega,by omega,by omega,by omega⟩
theorem box_after {w w1:World} {b:Nat} {o:Obj} {G:Nat→Prop} (h:w.heap[b]? =some o) (hk:Keeps G w w1) (hn:¬G b):w1.heap[b]? =some o:=(hk.block b (lt_there h) hn).trans h
end Go.Proofs.YtkiehemoiapkkaaGreat
end
section
namespace Go.Proofs.YtkiehemoiapkkaaGreat
open Go.RowKit
def LG.start (L:LG) (S:DS) (s:Nat):Int×DS×LG:=
 if L.dead S=true then (3,S,L) else if L.begun=true then (5,S,L) else
 if (anew S s L.f (((L.top+1:Nat):Int)*4294967296+((0:Nat):Int))).1≠0 then ((anew S s L.f (((L.top+1:Nat):Int)*4294967296+((0:Nat):Int))).1,(anew S s L.f (((L.top+1:Nat):Int)*4294967296+((0:Nat):Int))).2,L)
 else (0,(anew S s L.f (((L.top+1:Nat):Int)*4294967296+((0:Nat):Int))).2,{L with begun:=true,ep:=L.top+1,tail:=0,head:=0})
theorem LogP.started {w:World} {l p:Nat} {L:LG} (h:LogP w l p L) (E:Int) (n:Nat) (hE:E=(n:Int)):
  LogP ((((w.setCell ⟨l,4,none⟩ (.bool true)).setCell ⟨l,5,none⟩ (.int .i64 E)).setCell ⟨l,6,none⟩ (.int .i64 0)).setCell ⟨l,7,none⟩ (.int .i64 0)) l p {L with begun:=true,ep:=n,tail:=0,head:=0}:=by
 subst hE
 have h1:=heap_setCell_same _ _ 4 _ _ (.bool true) h
 have h2:=heap_setCell_same _ _ 5 _ _ (.int .i64 (n:Int)) h1
 have h3:=heap_setCell_same _ _ 6 _ _ (.int .i64 0) h2
 have h4:=heap_setCell_same _ _ 7 _ _ (.int .i64 0) h3
 exact h4.trans (by simp [lgC])
theorem keeps_set {F:Nat→Prop} (w:World) {l:Nat} (hF:F l) (j:Nat) (v:Value):Keeps F w (w.setCell ⟨l,j,none⟩ v):=Keeps.setCell (F:=F) w (p:=⟨l,j,none⟩) hF v
section
variable {w:World} {F:Nat→Prop} {p s l:Nat} {S:DS} {L:LG}
end
end Go.Proofs.YtkiehemoiapkkaaGreat
end
section
namespace Go.Proofs.YtkiehemoiapkkaaGreat
open Go.RowKit
section
variable {w:World} {F:Nat→Prop} {p s l:Nat} {S:DS} {L:LG}
end
end Go.Proofs.YtkiehemoiapkkaaGreat
end
section
namespace Go.Proofs.YtkiehemoiapkkaaGreat
open Go.RowKit
abbrev pieceV (e q i c:Int) (a:Option Addr) (n k:Nat):Value:= .agg #[.int .i64 e, .int .i64 q, .int .i64 i, .int .i64 c, .slice a n k]
abbrev pieceC (e q i c:Int) (a:Option Addr) (n k:Nat):Array Value:= #[.int .i64 e, .int .i64 q, .int .i64 i, .int .i64 c, .slice a n k]
def pbody (E P i c:Nat) (part:List Int):List Int:=leb 4 E ++ (leb 4 P ++ (leb 2 i ++ (leb 2 c ++ part)))
theorem pbody_bytes {E P i c:Nat} {l:List Int} (h:Bytes l):Bytes (pbody E P i c l):=(leb_bytes _ _).append ((leb_bytes _ _).append ((leb_bytes _ _).append ((leb_bytes _ _).append h)))
end Go.Proofs.YtkiehemoiapkkaaGreat
end
section
namespace Go.Proofs.YtkiehemoiapkkaaGreat
open Go.RowKit
section
variable {w w':World} {F G:Nat→Prop} {p s m:Nat} {S:DS}
theorem wr_in {S:DS} {s k:Nat} (hf:S.fuse≠0) (hk:k<s) (l:List Int):S.wr s (k:Int) 512 l=(0,(S.put k l).wrote.spend):=by
 unfold DS.wr
 rw [if_neg hf,if_neg (by omega),if_neg (by omega),Int.toNat_natCast]
end
def aput (S:DS) (s f n E P i c:Nat) (part:List Int):Int×DS:=
 if S.fuse=0 then (3,S) else S.wr s ((f+2+P%n:Nat):Int) 512 (sseal (S.now (f+2+P%n)) (pbody E P i c part)).1
theorem Src.avoid {w w':World} {a:Option Addr} {n:Nat} {l:List Int} {F:Nat→Prop} (h:Src w a n l) (hk:Keeps F w w') (ha:∀y,a=some y→0<n→¬F y.block):Src w' a n l:=
   ⟨h.1,h.2.1,fun x hx i hi=>by
  have h0:=h.2.2 x hx i hi
  have hb:(x.add i).block=x.block:=by unfold Addr.add;split <;> rfl
  rw [World.cell?_of_block (w:=w) (hk.block _ (World.block_lt_of_cell? _ _ h0) (fun hf=>by rw [hb] at hf;exact ha x hx (by omega) hf))]
  exact h0⟩
theorem below_two (w:World) (o1 o2:Obj):Below w.heap.size w ((w.alloc o1).alloc o2):=((Below.refl _ _).alloc (Nat.le_refl _) _).alloc (by simp) _
end Go.Proofs.YtkiehemoiapkkaaGreat
end
