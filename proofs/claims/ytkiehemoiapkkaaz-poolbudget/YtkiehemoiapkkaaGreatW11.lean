import Derived.Test.YtkiehemoiapkkaaGreatW07
import Derived.Test.YtkiehemoiapkkaaGreatW10
section
namespace Go.Proofs.YtkiehemoiapkkaaGreat
open Go.RowKit Go.Maps
theorem infoConL {l:List Int} (h:l.length=512):(Tryz.prog.info? 113).map (·.size)=some (bs l).length:=by
 obtain⟨i,hi,he⟩:=Option.map_eq_some_iff.1 infoCon
 simp only [Prod.mk.injEq] at he
 rw [hi,bs,List.length_map,h,←he.2];rfl
theorem con_stored (w:World) {c:List Int} (hc:c.length=512):Blk ((w.alloc (.cells zsec 113)).setCells w.heap.size 0 (bs c)) 113 w.heap.size c∧Below w.heap.size w ((w.alloc (.cells zsec 113)).setCells w.heap.size 0 (bs c))∧(w.alloc (.cells zsec 113)).there w.heap.size 0 (bs c).length:=by
 have hw1:(w.alloc (.cells zsec 113)).heap[w.heap.size]? =some (.cells zsec 113 (0,0)):=heap_alloc_new _ _
 have hB1:Below w.heap.size w (w.alloc (.cells zsec 113)):=(Below.refl _ w).alloc (Nat.le_refl _) _
 refine⟨blk_stored (l:=c) hw1 (by rw [zsec_size,hc]),hB1.trans ((Keeps.setCells (F:=fun j=>j=w.heap.size) rfl (bs c) 0 _).below (fun j hj=>by omega) hB1.size),?_⟩
 rw [bs,List.length_map,hc]
 exact(there_of hw1 zsec_size)
theorem Blk.news {w:World} {T:TypeId} {g:Nat} {l:List Int} (h:Blk w T g l):∀j u,(bs l)[j]? =some u→w.cell? ((⟨g,0,none⟩:Addr).add j)=some u:=fun j u hu=>by
 obtain⟨hj,rfl⟩:=bs_getElem hu
 rw [addr_add,Nat.zero_add]
 exact h.cell hj
theorem owns_agreeS {W W':World} {B:Nat} {e:TypeId} {v:Value} {n:Nat} {xs:List Value} (h:W.ownsRow B e 1 v n xs) (hb:∀g,v.ownBlock=some g→W'.heap[g]? =W.heap[g]?):W'.ownsRow B e 1 v n xs:=by
 obtain⟨hl,⟨e,h3⟩|⟨g,cap,cur,rfl,hg,hbk,h4⟩⟩:=h
 ·exact⟨hl, .inl ⟨e,h3⟩⟩
 ·exact⟨hl, .inr ⟨g,cap,cur,rfl,hg,(hb g rfl).trans hbk,h4⟩⟩
theorem keys_at {ms:CM} {j:Nat} (hj:j<ms.length):(is_ (CM.keys ms))[j]? =some (.int .i64 ((ms[j]).1:Int)):=by
 simp [is_,CM.keys,hj]
end Go.Proofs.YtkiehemoiapkkaaGreat
end
section
namespace Go.Proofs.YtkiehemoiapkkaaGreat.B
open Go.RowKit
def Rb (r:Int) (c:Nat):Prop:=c<4611686018427387904→0≤r∧r≤(c:Int)
theorem Rb.read {r:Int} {c:Nat} (h:Rb r c):Rb (wrap64 (r+1)) (c+1):=by
 intro hc
 have h1:=h (by omega)
 have e:wrap64 (r+1)=r+1:=by unfold wrap64;omega
 rw [e]
 omega
theorem Rb.le {r:Int} {c d:Nat} (h:Rb r c) (hd:c≤d):Rb r d:=by
 intro hc
 have h1:=h (by omega)
 omega
def DiskR (w:World) (F:Nat→Prop) (p s:Nat) (S:DS) (c:Nat):Prop:=∃r,DiskAt w F p s (S.rds r)∧Rb r c
section
variable {w w':World} {F G:Nat→Prop} {p s c:Nat} {S:DS}
theorem DiskR.old (h:DiskR w F p s S c):Go.Proofs.YtkiehemoiapkkaaGreat.DiskR w F p s S:=by obtain⟨r,h,_⟩:=h;exact⟨r,h⟩
theorem DiskR.le {d:Nat} (h:DiskR w F p s S c) (hd:c≤d):DiskR w F p s S d:=by obtain⟨r,h,hr⟩:=h;exact⟨r,h,hr.le hd⟩
theorem DiskR.ok (h:DiskR w F p s S c):S.Ok s:=h.old.ok
theorem DiskR.lt (h:DiskR w F p s S c):∀k,F k→k<w.heap.size:=h.old.lt
theorem DiskR.keep (h:DiskR w F p s S c) (k:Keeps G w w') (hd:∀k,F k→¬G k):DiskR w' F p s S c:=by obtain⟨r,h,hr⟩:=h;exact⟨r,h.keep k hd,hr⟩
theorem DiskR.later (h:DiskR w F p s S c) (hb:Below w.heap.size w w'):DiskR w' F p s S c:=h.keep (Keeps.of_below (fun _=>False) hb) (fun _ _ h=>h)
theorem DiskR.boxed (h:DiskR w F p s S c) (o:Obj):DiskR (w.alloc o) F p s S c:=h.later ((Below.refl w.heap.size w).alloc (Nat.le_refl _) o)
theorem DiskR.mono (h:DiskR w F p s S c) (hG:∀k,F k→G k) (hl:∀k,G k→k<w.heap.size):DiskR w G p s S c:=by obtain⟨r,h,hr⟩:=h;exact⟨r,h.mono hG hl,hr⟩
theorem DiskR.more (h:DiskR w' F p s S c):DiskR w' (more F w w') p s S c:=by obtain⟨r,h,hr⟩:=h;exact⟨r,h.more,hr⟩
theorem dsectors (h:DiskR w F p s S c):Calls Tryz.prog 46 #[.pointer (some ⟨p,0,none⟩)] w fun e w'=>e= .returned (.int .i64 s)∧w'=w:=Go.Proofs.YtkiehemoiapkkaaGreat.dsectors h.old
theorem dburnt (h:DiskR w F p s S c):Calls Tryz.prog 44 #[.pointer (some ⟨p,0,none⟩)] w fun e w'=>e= .returned (.bool (S.fuse == 0))∧w'=w:=Go.Proofs.YtkiehemoiapkkaaGreat.dburnt h.old
theorem dtake (h:DiskR w F p s S c):Calls Tryz.prog 42 #[.pointer (some ⟨p,0,none⟩)] w fun e w'=>e= .returned (.int .i64 (wrap64 (S.life+1)))∧DiskR w' F p s S.take c∧Keeps F w w':=by
 obtain⟨r,h,hr⟩:=h
 refine(take_at h).mono ?_
 rintro e w' ⟨rfl,h1,h2⟩
 exact⟨rfl,⟨r,h1,hr⟩,h2⟩
theorem dread_dead (h:DiskR w F p s S c) (x:Int) (hf:S.fuse=0):Calls Tryz.prog 102 #[.pointer (some ⟨p,0,none⟩), .int .i64 x] w fun e w'=>e= .returned (.tuple #[.slice none 0 0, .int .i64 3])∧w'=w:=Go.Proofs.YtkiehemoiapkkaaGreat.dread_dead h.old x hf
theorem dread_ok (h:DiskR w F p s S c) (k:Nat) (hk:k<s) (hbig:S.puts.length+1≤4000000000000) (hf:S.fuse≠0):
  Calls Tryz.prog 102 #[.pointer (some ⟨p,0,none⟩), .int .i64 (k:Int)] w fun e w'=>∃v,e= .returned (.tuple #[v, .int .i64 0])∧Out w.heap.size w' (S.now k) v∧DiskR w' F p s S (c+1)∧Keeps F w w':=by
 obtain⟨r,h,hr⟩:=h
 have h1:=read_all h (k:Int) hbig
 rw [rd_in (S:=S.rds r) hf hk] at h1
 refine h1.mono ?_
 rintro e w' ⟨v,rfl,h2,h3,h4⟩
 exact⟨v,rfl,h2,⟨_,h3,hr.read⟩,h4⟩
theorem dwrite (h:DiskR w F p s S c) (x:Int) (a:Option Addr) (n k:Nat) (l:List Int) (hs:Src w a n l) (hbig:S.puts.length+1≤4000000000000):
  Calls Tryz.prog 49 #[.pointer (some ⟨p,0,none⟩), .int .i64 x, .slice a n k] w fun e w'=>e= .returned (.int .i64 (S.wr s x n l).1)∧DiskR w' (Go.Proofs.YtkiehemoiapkkaaGreat.more F w w') p s (S.wr s x n l).2 c∧Keeps F w w':=by
 obtain⟨r,h,hr⟩:=h
 have h1:=write_all h x a n k l hs hbig
 rw [rds_wr] at h1
 refine h1.mono ?_
 rintro e w' ⟨rfl,h2,h3⟩
 exact⟨rfl,⟨r,h2,hr⟩,h3⟩
theorem dflush (h:DiskR w F p s S c) (hbig:S.puts.length+1≤4000000000000):
  Calls Tryz.prog 50 #[.pointer (some ⟨p,0,none⟩)] w fun e w'=>e= .returned (.int .i64 (S.fl s).1)∧DiskR w' F p s (S.fl s).2 c∧Keeps F w w':=by
 obtain⟨r,h,hr⟩:=h
 have h1:=flush_all h hbig
 rw [rds_fl] at h1
 refine h1.mono ?_
 rintro e w' ⟨rfl,h2,h3⟩
 exact⟨rfl,⟨r,h2,hr⟩,h3⟩
theorem rds_anew (S:DS) (r:Int) (s f:Nat) (num:Int) (hf:S.fuse≠0):arenew (S.rds r) s f num=((anew S s f num).1,(anew S s f num).2.rds (wrap64 (wrap64 (r+1)+1))):=by
 unfold arenew anew
 rw [if_neg hf]
 simp only [rds_now]
 have e:(S.rds r).read.read=S.rds (wrap64 (wrap64 (r+1)+1)):=rfl
 simp only [e,rds_wr]
 split
 ·rfl
 ·split
  ·rfl
  ·simp only [rds_fl]
theorem dnewest (h:DiskR w F p s S c) (f:Nat) (n:Int) (hbig:S.puts.length+1≤4000000000000) (hf:S.fuse≠0) (hs:f+1<s) (hb1:Bytes (S.now f)) (hb2:Bytes (S.now (f+1))):
  Calls Tryz.prog 137 #[areaV p f n] w fun e w'=>e= .returned (.tuple #[.int .i64 ((lnewest (S.now f) (S.now (f+1))).1:Int), .int .i64 ((lnewest (S.now f) (S.now (f+1))).2.1:Int), .int .i64 ((lnewest (S.now f) (S.now (f+1))).2.2:Int)])∧DiskR w' F p s S (c+2)∧Keeps F w w':=by
 obtain⟨r,h,hr⟩:=h
 refine(anewest_ok h f n hbig hf hs hb1 hb2).mono ?_
 rintro e w' ⟨rfl,h2,h3⟩
 exact⟨rfl,⟨_,h2,hr.read.read⟩,h3⟩
theorem drefusal (h:DiskR w F p s S c) (f n:Int):Calls Tryz.prog 94 #[areaV p f n] w fun e w'=>e= .returned (.int .i64 (lrefuse S s f n))∧Below w.heap.size w w':=Go.Proofs.YtkiehemoiapkkaaGreat.drefusal h.old f n
end
set_option maxRecDepth 20000 in
set_option maxHeartbeats 4000000 in
theorem renew_dead {w:World} {F:Nat→Prop} {p s c:Nat} {S:DS} (h:DiskR w F p s S c) (f:Nat) (n:Int) (E T:Int) (hbig:S.puts.length+1≤4000000000000) (hf:S.fuse=0):
  Calls Tryz.prog 96 #[areaV p f n, .int .i64 E, .int .i64 T] w fun e w'=>e= .returned (.int .i64 3)∧DiskR w' F p s S c∧Keeps F w w':=by
 obtain⟨r,h,hr⟩:=h
 go_enter Tryz.func96,Tryz.ntmps96
 go_wp2_with fail
 refine(pair_dead (h.boxed (.cells #[.pointer (some ⟨p,0,none⟩), .int .i64 f, .int .i64 n] 136)) f n hbig hf).mono ?_
 rintro e w1 ⟨rfl,hd,hk⟩
 go_wp2
 go_ret
 exact⟨rfl,⟨r,hd,hr⟩,((Keeps.boxed (w:=w) F (.cells #[.pointer (some ⟨p,0,none⟩), .int .i64 f, .int .i64 n] 136)).trans hk (fun _ h=> .inl h))⟩
theorem drenew {w:World} {F:Nat→Prop} {p s c:Nat} {S:DS} (h:DiskR w F p s S c) (f:Nat) (n:Int) (E T:Nat) (hE:E≤1073741824) (hT:T≤1073741824) (hbig:S.puts.length+2≤4000000000000) (hs:f+1<s) (hb1:Bytes (S.now f)) (hb2:Bytes (S.now (f+1))):
  Calls Tryz.prog 96 #[areaV p f n, .int .i64 (E:Int), .int .i64 (T:Int)] w fun e w'=>e= .returned (.int .i64 (anew S s f ((E:Int)*4294967296+T)).1)∧DiskR w' (more F w w') p s (anew S s f ((E:Int)*4294967296+T)).2 (c+2)∧Keeps F w w':=by
 by_cases hf:S.fuse=0
 ·refine(renew_dead h f n E T (by omega) hf).mono ?_
  rintro e w' ⟨rfl,h1,h2⟩
  unfold anew
  rw [if_pos hf]
  exact⟨rfl,h1.more.le (by omega),h2⟩
 ·obtain⟨r,h,hr⟩:=h
  have h1:=arenew_ok h f n E T hE hT hbig hf hs hb1 hb2
  rw [(rds_anew S r s f ((E:Int)*4294967296+T) hf)] at h1
  refine h1.mono ?_
  rintro e w' ⟨rfl,h2,h3⟩
  exact⟨rfl,⟨_,h2,hr.read.read⟩,h3⟩
end Go.Proofs.YtkiehemoiapkkaaGreat.B
end
section
namespace Go.Proofs.YtkiehemoiapkkaaGreat.B
open Go.RowKit
theorem DiskR.from {w w1 w2:World} {F:Nat→Prop} {p s c:Nat} {S:DS} (h:DiskR w2 (Go.Proofs.YtkiehemoiapkkaaGreat.more F w1 w2) p s S c) (hl:∀k,F k→k<w.heap.size) (h1:w.heap.size≤w1.heap.size) (h2:w1.heap.size≤w2.heap.size):DiskR w2 (Go.Proofs.YtkiehemoiapkkaaGreat.more F w w2) p s S c:=
 h.mono (fun k hk=>by rcases hk with hk|hk;exact .inl hk;exact .inr ⟨by omega,hk.2⟩) (more_lt hl (by omega))
theorem DiskR.wide {w w1 w2:World} {F:Nat→Prop} {p s c:Nat} {S:DS} (h:DiskR w2 (Go.Proofs.YtkiehemoiapkkaaGreat.more F w w1) p s S c) (hl:∀k,F k→k<w.heap.size) (h1:w.heap.size≤w1.heap.size) (h2:w1.heap.size≤w2.heap.size):DiskR w2 (Go.Proofs.YtkiehemoiapkkaaGreat.more F w w2) p s S c:=
 h.mono (fun k hk=>by rcases hk with hk|hk;exact .inl hk;exact .inr ⟨hk.1,by omega⟩) (more_lt hl (by omega))
section
variable {w:World} {F:Nat→Prop} {p s l cR:Nat} {S:DS} {L:LG}
theorem dead_any (h:DiskR w F p s S cR) (hl:LogP w l p L):
  Calls Tryz.prog 107 #[.pointer (some ⟨l,0,none⟩)] w fun e w'=>e= .returned (.bool (L.dead S))∧Below w.heap.size w w':=Go.Proofs.YtkiehemoiapkkaaGreat.dead_any h.old hl
end
end Go.Proofs.YtkiehemoiapkkaaGreat.B
end
section
namespace Go.Proofs.YtkiehemoiapkkaaGreat
open Go.RowKit Go.Maps
abbrev stC (p l m:Nat) (y:LY) (busy:Bool):Array Value:= #[.pointer (some ⟨p,0,none⟩), .pointer (some ⟨l,0,none⟩), .int .i64 (y.log:Int), .int .i64 (y.home:Int), .int .i64 (y.blocks:Int), .int .i64 (y.nodes:Int), .int .i64 (y.data:Int), .map (some m), .bool busy]
def StP (w:World) (q p l m:Nat) (y:LY) (busy:Bool):Prop:=w.heap[q]? =some (.cells (stC p l m y busy) 96 (0,0))
section
variable {w w':World} {q p l m:Nat} {y:LY} {busy:Bool}
theorem StP.lt (h:StP w q p l m y busy):q<w.heap.size:=lt_there h
theorem StP.keep {G:Nat→Prop} (h:StP w q p l m y busy) (k:Keeps G w w') (hn:¬G q):StP w' q p l m y busy:=(k.block q h.lt hn).trans h
theorem StP.later (h:StP w q p l m y busy) (hb:Below w.heap.size w w'):StP w' q p l m y busy:=(hb.block q h.lt).trans h
theorem StP.c0 (h:StP w q p l m y busy):w.cell? ⟨q,0,none⟩=some (.pointer (some ⟨p,0,none⟩)):=cell_of_block h (j:=0) rfl
theorem StP.c1 (h:StP w q p l m y busy):w.cell? ⟨q,1,none⟩=some (.pointer (some ⟨l,0,none⟩)):=cell_of_block h (j:=1) rfl
theorem StP.c3 (h:StP w q p l m y busy):w.cell? ⟨q,3,none⟩=some (.int .i64 (y.home:Int)):=cell_of_block h (j:=3) rfl
theorem StP.c4 (h:StP w q p l m y busy):w.cell? ⟨q,4,none⟩=some (.int .i64 (y.blocks:Int)):=cell_of_block h (j:=4) rfl
theorem StP.c7 (h:StP w q p l m y busy):w.cell? ⟨q,7,none⟩=some (.map (some m)):=cell_of_block h (j:=7) rfl
theorem StP.c8 (h:StP w q p l m y busy):w.cell? ⟨q,8,none⟩=some (.bool busy):=cell_of_block h (j:=8) rfl
end
set_option maxRecDepth 20000 in
theorem home_any {w:World} {q p l m:Nat} {y:LY} {busy:Bool} (h:StP w q p l m y busy) (b:Nat) (hb:y.home+b≤1000000):
  Calls Tryz.prog 127 #[.pointer (some ⟨q,0,none⟩), .int .i64 (b:Int)] w fun e w'=>e= .returned (.int .i64 ((y.home:Int)+(b:Int)))∧w'=w:=by
 have c3:=h.c3
 go_enter Tryz.func127,Tryz.ntmps127
 go_wp2
 go_ret
 exact⟨rfl,rfl⟩
theorem sbring_cons (S:DS) (s h:Nat) (q:Nat×List Int) (qs:CM):sbring S s h (q :: qs)=if (S.wr s ((h+q.1:Nat):Int) 512 q.2).1≠0 then S.wr s ((h+q.1:Nat):Int) 512 q.2 else sbring (S.wr s ((h+q.1:Nat):Int) 512 q.2).2 s h qs:=rfl
theorem sbring_append (S:DS) (s h:Nat):∀(a b:CM),sbring S s h (a ++ b)=if (sbring S s h a).1≠0 then sbring S s h a else sbring (sbring S s h a).2 s h b
 | [],b=>by simp [sbring]
 |q :: qs,b=>by
  rw [List.cons_append,sbring_cons,sbring_cons]
  by_cases e:(S.wr s ((h+q.1:Nat):Int) 512 q.2).1≠0
  ·rw [if_pos e,if_pos e,if_pos e]
  ·rw [if_neg e,if_neg e]
   exact sbring_append _ s h qs b
theorem sbring_puts (S:DS) (s h:Nat):∀(ms:CM),(sbring S s h ms).2.puts.length≤S.puts.length+ms.length:=fun ms=>by
 induction ms generalizing S with
 |nil=>exact Nat.le_refl _
 |cons q qs ih=>
  have h1:=wr_puts S s ((h+q.1:Nat):Int) 512 q.2
  unfold sbring
  split
  ·rw [List.length_cons];omega
  ·have:=ih (S.wr s ((h+q.1:Nat):Int) 512 q.2).2
   rw [List.length_cons]
   omega
set_option maxRecDepth 20000 in
set_option maxHeartbeats 8000000 in
theorem bringHome_any {w:World} {F:Nat→Prop} {p s c q l m:Nat} {S:DS} {y:LY} {busy:Bool} {ms:CM} (hd:B.DiskR w F p s S c) (hs:StP w q p l m y busy) (hm:Ch w m ms) (hq:¬F q) (hFm:¬F m) (hk:∀x∈ms,y.home+x.1<s) (hbig:S.puts.length+3000≤4000000000000):
  Calls Tryz.prog 87 #[.pointer (some ⟨q,0,none⟩)] w fun e w'=>e= .returned (.int .i64 (sbring S s y.home ms).1)∧B.DiskR w' (more F w w') p s (sbring S s y.home ms).2 c∧Keeps F w w':=by
 have h1:=inOrder_any hm
 have hsm:=hm.small
 have hlen:=hm.len
 have hok:=hm.ok
 have hss:=hd.ok.hi
 have hkl:(CM.keys ms).length=ms.length:=by simp [CM.keys]
 rw [hkl] at h1
 have hzc:=zeroCon
 have c7:=hs.c7
 have HLt:=Hid.mk hd.lt
 have HD:=Hid.mk hd
 have HS:=Hid.mk hs
 have HM:=Hid.mk hm
 clear hd hs hm
 go_enter Tryz.func87,Tryz.ntmps87
 go_wp2_with fail
 refine h1.mono ?_
 rintro e w1 ⟨a,ca,rfl,hrow,hb1⟩
 have hz1:=hb1.size
 have HRow:=Hid.mk hrow
 have HD1:=Hid.mk (HD.out.later hb1)
 have HS1:=Hid.mk (HS.out.later hb1)
 have HM1:=Hid.mk (HM.out.later hb1)
 have HB1:=Hid.mk hb1
 clear h1 hrow hb1 HD HS HM c7
 go_wp2
 go_loopw [13] (fun i wr=>∃j:Nat,j≤ms.length∧i= .int .i64 (j:Int)∧(sbring S s y.home (ms.take j)).1=0∧B.DiskR wr (more F w1 wr) p s (sbring S s y.home (ms.take j)).2 c∧Keeps F w1 wr) (fun i _=>ms.length-(intOf i).toNat)
 case atStart=>exact⟨0,Nat.zero_le _,rfl,rfl,HD1.out.more,Keeps.refl _ _⟩
 case round=>
  clear HD1
  obtain⟨j,hj,rfl,hz,hd,hkp⟩:=hrel
  have hkz:=hkp.size
  by_cases hlt:j<ms.length
  ·have hlt':(j:Int)<(ms.length:Int):=by omega
   have hj0:(0:Int)≤(j:Int):=by omega
   obtain⟨g,rfl,hg,hr⟩:=HRow.out (by simp [CM.keys];intro e;rw [e] at hlt;simp at hlt)
   have hgF:¬F g:=fun hf=>by have:=HLt.out _ hf;omega
   have hc4:=(hr.agree (hkp.block g hr.lt hgF)).cell (keys_at hlt)
   have hq5:=hlen _ (List.getElem_mem hlt)
   have hks:=hk _ (List.getElem_mem hlt)
   have hsr:=HS1.out.keep hkp hq
   have c7:=hsr.c7
   have hst:=con_stored wr hq5.2.1
   have hinfo:=infoConL hq5.2.1
   have hone:=bs_one (ms[j]).2
   have hF5:(bs (ms[j]).2).length=512:=by rw [bs,List.length_map,hq5.2.1]
   have hpu:=sbring_puts S s y.home (ms.take j)
   have hsn:sbring S s y.home (ms.take (j+1))=(sbring S s y.home (ms.take j)).2.wr s ((y.home+(ms[j]).1:Nat):Int) 512 (ms[j]).2:=by
    rw [List.take_succ_eq_append_getElem hlt,sbring_append,if_neg (fun h=>h hz)]
    simp only [sbring]
    split
    ·rfl
    ·rename_i h
     generalize DS.wr _ _ _ _ _=Z at*
     rw [←(Decidable.byContradiction h)]
   have hend:sbring S s y.home ms=if (sbring S s y.home (ms.take (j+1))).1≠0 then sbring S s y.home (ms.take (j+1)) else sbring (sbring S s y.home (ms.take (j+1))).2 s y.home (ms.drop (j+1)):=by
    conv=>lhs;rw [←List.take_append_drop (j+1) ms]
    exact sbring_append S s y.home _ _
   obtain⟨wS,hwS⟩:∃wS,wS=(wr.alloc (.cells zsec 113)).setCells wr.heap.size 0 (bs (ms[j]).2):=⟨_,rfl⟩
   have hbS:Below wr.heap.size wr wS:=by rw [hwS];exact hst.2.1
   have hblk:Blk wS 113 wr.heap.size (ms[j]).2:=by rw [hwS];exact hst.1
   have hsrc:Src wS (some ⟨wr.heap.size,0,none⟩) 512 (ms[j]).2:=by
    have:=hblk.src (o:=0) (n:=512) (by omega)
    rwa [List.drop_zero,List.take_of_length_le (by omega)] at this
   have hsS:=hsr.later hbS
   have hhome:=fun (wx:World) (hb:Below wS.heap.size wS wx)=>home_any (hsS.later hb) (ms[j]).1 (by omega)
   have hwrt:=fun (wx:World) (hb:Below wS.heap.size wS wx)=>B.dwrite ((hd.later hbS).later hb) ((y.home+(ms[j]).1:Nat):Int) (some ⟨wr.heap.size,0,none⟩) 512 512 (ms[j]).2 (hsrc.later hb) (by rw [List.length_take] at hpu;omega)
   rw [←hsn,Int.natCast_add] at hwrt
   have c0:=hsS.c0
   obtain⟨A,hA⟩:∃A,A=bs (ms[j]).2:=⟨_,rfl⟩
   rw [←hA] at hinfo hone hF5 hwS
   have hread':(Instr.lookup 94 (.map (some m)) (.int .i64 ((ms[j]).1:Int)) false).run Tryz.prog wr= .ok (.agg A.toArray) wr:=by rw [hA];exact((HM1.out.keep hkp hFm).read (ms[j]).1 (CM.get_of_mem hok (List.getElem_mem hlt)))
   have hth:=hst.2.2
   rw [←hA] at hth
   have hall:=all_oneCell_toArray hone
   have HsS:=Hid.mk hsS
   have HH:=Hid.mk hhome
   have HWr:=Hid.mk hwrt
   have HBS:=Hid.mk hbS
   have HK:=Hid.mk hkp
   have HE:=Hid.mk hend
   clear hst hr hd hkp hsr hsS hbS hblk hsrc hA hq5 hhome hwrt hsn hend hpu hz
   obtain⟨Y,hY⟩:∃Y,Y=sbring S s y.home (ms.take (j+1)):=⟨_,rfl⟩
   rw [←hY] at HWr HE
   have HY:=Hid.mk hY
   clear hY
   generalize (ms[j]).1=K at*
   generalize zsec=Z at*
   go_wp2_with (refine wpList_store_mid rfl 113 _ _ rfl wr.heap.size 0 A.toArray rfl rfl ?h1 ?h2 hall ?_)
   case h1=>first|simpa using hth|(rw [hF5] at hth;simpa using hth)
   case h2=>simpa using hinfo
   have hwS':=(Hid.mk hwS).out
   subst hwS'
   have hqm:¬more F w1 wr q:=fun h=>by
    rcases h with h|h
    ·exact hq h
    ·have:=HS1.out.lt;omega
   have HLr:Hid (∀k,F k→k<w1.heap.size):=fun k hf=>by have:=HLt.out k hf;omega
   generalize hwS':(wr.alloc (.cells Z 113)).setCells wr.heap.size 0 A=wS at*
   clear hwS'
   have hzS:=HBS.out.size
   by_cases kY:Y.1=0
   ·have dY:(Y.1 != 0)=false:=by rw [kY];rfl
    go_region_held3 (fun w'=>w'.cell? ⟨q,0,none⟩=some (.pointer (some ⟨p,0,none⟩)))
     (first|exact c0|exact c05)
     (first
      |(go_at_call 127;refine(HH.out _ (below_drew (Below.refl _ _))).mono ?_;rintro e wy ⟨rfl,hwy⟩;have hwy':=hwy.symm;subst hwy';clear hwy)
      |(go_at_call 49;refine(HWr.out _ (below_drew (Below.refl _ _))).mono ?_;rintro e w5 ⟨rfl,hd5,hk5⟩;have c05:=((HsS.out.later (below_drew (Below.refl _ _))).keep hk5 hqm).c0))
    have hz5:wS.heap.size≤w5.heap.size:=hk5.size
    have hdN:=hd5.mono (fun k hk=>by
     rcases hk with (hk|hk)|hk
     ·exact .inl hk
     ·exact .inr ⟨hk.1,by omega⟩
     ·have:wS.heap.size≤k:=hk.1
      exact .inr ⟨by omega,hk.2⟩) (more_lt (F:=F) (w:=w1) HLr.out (by omega))
    have hkN:=(HK.out.trans (Keeps.of_below (fun _=>False) (below_drew HBS.out)) (fun _ h=>h.elim)).trans hk5 (fun k hk=>by
     rcases hk with hk|hk
     ·exact .inl hk
     ·exact .inr hk.1)
    have HN:=Hid.mk (And.intro hdN hkN)
    have HKY:=Hid.mk kY
    clear hd5 hk5 c05 hdN hkN kY c0 c7 hc4
    go_wp2
    go_roundw
    case rel=>exact⟨j+1,by omega,by go_num,by rw [←HY.out];exact HKY.out,by rw [←HY.out];exact HN.out.1,HN.out.2⟩
    case measure=>simp [intOf];omega
   ·have dY:(Y.1 != 0)=true:=by rw [bne_iff_ne];exact kY
    go_region_held3 (fun w'=>w'.cell? ⟨q,0,none⟩=some (.pointer (some ⟨p,0,none⟩)))
     (first|exact c0|exact c05)
     (first
      |(go_at_call 127;refine(HH.out _ (below_drew (Below.refl _ _))).mono ?_;rintro e wy ⟨rfl,hwy⟩;have hwy':=hwy.symm;subst hwy';clear hwy)
      |(go_at_call 49;refine(HWr.out _ (below_drew (Below.refl _ _))).mono ?_;rintro e w5 ⟨rfl,hd5,hk5⟩;have c05:=((HsS.out.later (below_drew (Below.refl _ _))).keep hk5 hqm).c0))
    have hz5:wS.heap.size≤w5.heap.size:=hk5.size
    have hdN:=hd5.mono (fun k hk=>by
     rcases hk with (hk|hk)|hk
     ·exact .inl hk
     ·exact .inr ⟨hk.1,by omega⟩
     ·have:wS.heap.size≤k:=hk.1
      exact .inr ⟨by omega,hk.2⟩) (more_lt (F:=F) (w:=w1) HLr.out (by omega))
    have hkN:=(HK.out.trans (Keeps.of_below (fun _=>False) (below_drew HBS.out)) (fun _ h=>h.elim)).trans hk5 (fun k hk=>by
     rcases hk with hk|hk
     ·exact .inl hk
     ·exact .inr hk.1)
    have hE:=HE.out
    rw [if_pos kY] at hE
    have HN:=Hid.mk (And.intro (hdN.from HLt.out hz1 (by omega)) ((Keeps.of_below F HB1.out).trans hkN (fun _ h=> .inl h)))
    have HEq:=Hid.mk hE
    clear hd5 hk5 c05 hdN hkN kY c0 c7 hc4 hE
    go_wp2
    go_ret
    exact⟨by rw [HEq.out];rfl,by rw [HEq.out];exact HN.out.1,HN.out.2⟩
  ·have hlt':¬(j:Int)<(ms.length:Int):=by omega
   obtain rfl:j=ms.length:=by omega
   rw [List.take_length] at hz hd
   have HZ:=Hid.mk hz
   have HN:=Hid.mk (And.intro (hd.from HLt.out hz1 hkz) ((Keeps.of_below F HB1.out).trans hkp (fun _ h=> .inl h)))
   clear hd hkp hz
   go_wp2
   go_ret
   exact⟨by rw [HZ.out];rfl,HN.out⟩
end Go.Proofs.YtkiehemoiapkkaaGreat
end
section
namespace Go.Proofs.YtkiehemoiapkkaaGreat
open Go.RowKit Go.Maps
theorem smust_t (w:World):Calls Tryz.prog 105 #[.bool true] w fun e w'=>e= .returned (.tuple #[])∧w'=w:=by
 go_enter Tryz.func105,Tryz.ntmps105
 go_wp2
 go_end0
 exact⟨rfl,rfl⟩
abbrev sGave:List PanicEntry:= [{v:= .iface 39 (.int .i64 6),recovered:=false}]
theorem smust_f (w:World):Calls Tryz.prog 105 #[.bool false] w fun e w'=>e= .panicked sGave∧w'=w:=by
 go_enter Tryz.func105,Tryz.ntmps105
 go_wp2
 exact⟨rfl,rfl,rfl⟩
set_option maxRecDepth 20000 in
set_option maxHeartbeats 4000000 in
theorem staken_any (b o k c:Nat) (l:List Int) (w1:World) (hs:Src w1 (some ⟨b,o,none⟩) k l) (hb:Bytes l) (hk4:k≤4):
  Calls Tryz.prog 171 #[.slice (some ⟨b,o,none⟩) k c] w1 fun e w'=>e= .returned (.int .i64 ((le l:Nat):Int))∧w'=w1:=by
 have hl:l.length=k:=hs.1
 have Hs:Hid (∀i,i<k→w1.cell? ⟨b,o+i,none⟩=some (.int .u8 (l.getD i 0))):=fun i hi=>by
  have:=hs.2.2 _ rfl i hi
  rwa [addr_add] at this
 clear hs
 go_enter Tryz.func171,Tryz.ntmps171
 go_wp2
 go_loopw [3,8] (fun r i wr=>∃j:Nat,j≤k∧i= .int .i64 j∧wr=w1∧r= .int .i64 ((le (l.take j):Nat):Int)) (fun _ i _=>k-(intOf i).toNat)
 case atStart=>exact⟨0,Nat.zero_le _,rfl,rfl,by simp [le]⟩
 case round=>
  obtain⟨j,hj,rfl,hww,rfl⟩:=hrel
  subst hww
  by_cases hlt:j<k
  ·have hlt':(j:Int)<(k:Int):=by omega
   have hc:=Hs.out j hlt
   obtain⟨x,hx,hx1⟩:∃x:Nat,l.getD j 0=(x:Int)∧x<256:=by
    have:=hb.getD j
    exact⟨(l.getD j 0).toNat,by omega,by omega⟩
   have hsucc:=le_take_succ (l:=l) (k:=j) (by omega)
   have hA:le (l.take j)<2 ^ (8*j):=by
    have:=le_lt (hb.take j)
    have e:(l.take j).length=j:=by simp;omega
    rwa [e] at this
   have hB:le (l.take (j+1))<9223372036854775808:=le_small4 (hb.take _) (by simp;omega)
   rw [hx] at hc hsucc
   simp only [Int.toNat_natCast] at hsucc
   rw [hsucc] at hB
   have hor:=or_i64 (8*j) _ x hA hB
   rw [←hsucc] at hor
   have hsh:=shl_pow (x:Int) j (by omega)
   have hsh2:((x:Int)*2 ^ (8*j))=((2 ^ (8*j)*x:Nat):Int):=by rw [Int.natCast_mul,Int.natCast_pow,Int.mul_comm];rfl
   have hlt2:((2 ^ (8*j)*x:Nat):Int)<9223372036854775808:=by omega
   have hnn:(0:Int)≤8*(j:Int):=by omega
   generalize 2 ^ (8*j)*x=Y at*
   generalize le (l.take j)=A at*
   have Hor:=Hid.mk hor
   clear hA hB hsucc
   go_wp2
   go_roundw
   case rel=>exact⟨j+1,by omega,by go_num,trivial,by rw [←Hor.out]⟩
   case measure=>simp [intOf];omega
  ·have hlt':¬(j:Int)<(k:Int):=by omega
   have ej:l.take j=l:=List.take_of_length_le (by omega)
   rw [ej] at*
   go_wp2
   go_ret
   exact⟨rfl,rfl⟩
end Go.Proofs.YtkiehemoiapkkaaGreat
end
section
namespace Go.Proofs.YtkiehemoiapkkaaGreat
open Go.RowKit Go.Maps
set_option maxRecDepth 20000 in
set_option maxHeartbeats 4000000 in
theorem sdead_any {w:World} {F:Nat→Prop} {p s c q l m:Nat} {S:DS} {y:LY} {busy:Bool} {L:LG} (hd:B.DiskR w F p s S c) (hs:StP w q p l m y busy) (hl:LogP w l p L) (hk:L.Ok s) (hb:L.begun=true):
  Calls Tryz.prog 108 #[.pointer (some ⟨q,0,none⟩)] w fun e w'=>e= .returned (.bool (L.dead S))∧Below w.heap.size w w':=by
 have h1:=Room_any hd.old hl hk
 have hr:((L.room S).2 == 3)=L.dead S:=by
  unfold LG.room LG.unready
  cases hdd:L.dead S
  ·rw [if_neg (show¬false=true by decide),if_pos hb,if_neg (fun h=>h rfl)];rfl
  ·rw [if_pos rfl,if_pos (by decide)];rfl
 have c1:=hs.c1
 generalize (L.room S).2=E at*
 generalize (L.room S).1=E1 at*
 go_enter Tryz.func108,Tryz.ntmps108
 go_wp2_with fail
 refine h1.mono ?_
 rintro e w1 ⟨rfl,hb1⟩
 go_wp2
 go_ret
 exact⟨rfl,hb1⟩
theorem con_there (w:World):(w.alloc (.cells zsec 113)).there w.heap.size 0 512:=there_of (heap_alloc_new _ _) zsec_size
theorem arrayCon (a:Option Addr) (c:Nat) (w:World):(Instr.arrayAt 113 (.slice a 512 c)).run Tryz.prog w= .ok (.pointer a) w:=by
 simp [Instr.arrayAt,run_underlying Tryz.underlying113]
theorem there_keep {w w':World} {g n:Nat} (h:w.there g 0 n) (hb:w'.heap[g]? =w.heap[g]?):w'.there g 0 n:=by
 intro j hj
 obtain⟨h1,h2⟩:=h j hj
 refine⟨?_,?_⟩
 ·rw [World.cell?_of_block (w:=w) (w':=w') (a:=⟨g,0+j,none⟩) hb];exact h1
 ·unfold World.frozen? at h2⊢
  rw [show w'.heap[g]? =w.heap[g]? from hb]
  exact h2
set_option maxRecDepth 20000 in
set_option maxHeartbeats 8000000 in
theorem committed_in {w:World} {q p l m:Nat} {y:LY} {busy:Bool} {ov:CM} (hs:StP w q p l m y busy) (hm:Ch w m ov) (b:Nat) {c:List Int} (hg:CM.get ov b=some c):
  Calls Tryz.prog 110 #[.pointer (some ⟨q,0,none⟩), .int .i64 (b:Int)] w fun e w'=>e= .returned (.tuple #[cV c, .int .i64 0])∧Below w.heap.size w w':=by
 have hq5:=hm.len _ (CM.get_mem hg)
 have hzc:=zeroCon
 have hB1:Below w.heap.size w (w.alloc (.cells zsec 113)):=(Below.refl _ w).alloc (Nat.le_refl _) _
 have c7:=(hs.later hB1).c7
 have hlook:=(hm.later hB1).look b hq5.1
 rw [hg] at hlook
 have hst:=con_stored (w.alloc (.cells zsec 113)) hq5.2.1
 rw [World.size_alloc] at hst
 have hinfo:=infoConL hq5.2.1
 have hone:=bs_one c
 have hF5:(bs c).length=512:=by rw [bs,List.length_map,hq5.2.1]
 obtain⟨A,hA⟩:∃A,A=bs c:=⟨_,rfl⟩
 have hlook':(Instr.lookup 94 (.map (some m)) (.int .i64 (b:Int)) true).run Tryz.prog (w.alloc (.cells zsec 113))= .ok (.tuple #[.agg A.toArray, .bool true]) (w.alloc (.cells zsec 113)):=by rw [hA];exact hlook
 have hra:(((w.alloc (.cells zsec 113)).alloc (.cells zsec 113)).setCells (w.heap.size+1) 0 (bs c)).rangeAt (w.heap.size+1) 0 (bs c):=fun j v hv=>by
  have:=hst.1.news j v hv
  rwa [addr_add] at this
 rw [←hA] at hinfo hone hF5 hst hra
 have hth2:=there_keep (con_there w) (hst.2.1.block _ (by simp))
 have hrs:=Hid.mk (World.rangeAt_setCells_same _ w.heap.size 0 A (by rw [hF5];exact hth2))
 have hall:=all_oneCell_toArray hone
 have hB2:=hB1.trans (hst.2.1.mono (by omega))
 have hB3:=Hid.mk (hB2.trans ((Keeps.setCells (F:=fun j=>j=w.heap.size) rfl A 0 _).below (fun j hj=>by omega) hB2.size))
 have hth1:=hst.2.2
 have HA:=Hid.mk hA
 clear hlook hst hs hm hB1 hB2 hone hg hq5 hA
 generalize zsec=Z at*
 go_enter Tryz.func110,Tryz.ntmps110
 go_wp2_with (first|refine wpList_load_mid rfl 113 _ rfl (w.heap.size+1) 0 rfl A _ hra Tryz.underlying113 rfl hinfo ?_|refine wpList_store_mid rfl 113 _ _ rfl (w.heap.size+1) 0 A.toArray rfl rfl ?h1 ?h2 hall ?_|refine wpList_store_mid rfl 113 _ _ rfl w.heap.size 0 A.toArray rfl rfl ?h3 ?h4 hall ?_)
 case h1=>first|simpa using hth1|(rw [hF5] at hth1;simpa using hth1)
 case h2=>simpa using hinfo
 case h3=>
  have e:A.toArray.size=512:=by simpa using hF5
  rw [e];exact hth2
 case h4=>simpa using hinfo
 refine bodyPost_ret (results_cell_tmp (P:=Tryz.prog) rfl _ _ w.heap.size A _ _ rfl rfl hrs.out Tryz.underlying113 rfl hinfo) rfl ⟨?_,hB3.out⟩
 show _=Ending.returned (.tuple #[.agg (bs c).toArray, .int .i64 0])
 rw [←HA.out]
 rfl
set_option maxRecDepth 20000 in
set_option maxHeartbeats 8000000 in
theorem committed_out {w:World} {F:Nat→Prop} {p s cR q l m:Nat} {S:DS} {y:LY} {busy:Bool} {ov:CM} (hd:B.DiskR w F p s S cR) (hs:StP w q p l m y busy) (hm:Ch w m ov) (hq:¬F q) (b:Nat) (hb:b<2048) (hg:CM.get ov b=none) (hk:y.home+b<s) (hf:S.fuse≠0) (hbig:S.puts.length+1≤4000000000000):
  Calls Tryz.prog 110 #[.pointer (some ⟨q,0,none⟩), .int .i64 (b:Int)] w fun e w'=>e= .returned (.tuple #[cV (S.now (y.home+b)), .int .i64 0])∧B.DiskR w' F p s S (cR+1)∧Keeps F w w':=by
 have hzc:=zeroCon
 have hss:=hd.ok.hi
 have hB1:Below w.heap.size w (w.alloc (.cells zsec 113)):=(Below.refl _ w).alloc (Nat.le_refl _) _
 have c7:=(hs.later hB1).c7
 have hlook:=(hm.later hB1).look b hb
 rw [hg] at hlook
 have hlook':(Instr.lookup 94 (.map (some m)) (.int .i64 (b:Int)) true).run Tryz.prog (w.alloc (.cells zsec 113))= .ok (.tuple #[.agg zsec, .bool false]) (w.alloc (.cells zsec 113)):=hlook
 have hst:=con_stored (w.alloc (.cells zsec 113)) (zs_len 512)
 rw [World.size_alloc] at hst
 have hinfoZ:=infoConL (zs_len 512)
 have hallZ:=all_oneCell_toArray (bs_one (zs 512))
 have hthZ:=hst.2.2
 have hzz:(bs (zs 512)).toArray=zsec:=rfl
 obtain⟨ZL,hZL⟩:∃ZL,ZL=bs (zs 512):=⟨_,rfl⟩
 rw [←hZL] at hst hinfoZ hallZ hthZ hzz
 have hZ5:ZL.length=512:=by rw [hZL,bs,List.length_map,zs_len]
 obtain⟨wA,hwA⟩:∃wA,wA=((w.alloc (.cells zsec 113)).alloc (.cells zsec 113)).setCells (w.heap.size+1) 0 ZL:=⟨_,rfl⟩
 have hBA:Below w.heap.size w wA:=by rw [hwA];exact hB1.trans (hst.2.1.mono (by omega))
 have hthA:wA.there w.heap.size 0 512:=by rw [hwA];exact there_keep (con_there w) (hst.2.1.block _ (by simp))
 have hszA:w.heap.size<wA.heap.size:=by
  have:=hst.2.1.size
  rw [hwA]
  rw [World.size_alloc] at this
  omega
 have hsA:=hs.later hBA
 have c0:=hsA.c0
 have hhome:=fun (wx:World) (hb:Below wA.heap.size wA wx)=>home_any (hsA.later hb) b (by omega)
 have hrd:=fun (wx:World) (hb:Below wA.heap.size wA wx)=>B.dread_ok ((hd.later hBA).later hb) (y.home+b) hk hbig hf
 rw [Int.natCast_add] at hrd
 have HH:=Hid.mk hhome
 have HRd:=Hid.mk hrd
 have HsA:=Hid.mk hsA
 have HTh:=Hid.mk hthA
 have HBA:=Hid.mk hBA
 have HLt:=Hid.mk hd.lt
 have HwA:=Hid.mk hwA
 have HNl:=Hid.mk (now_len hd.ok (y.home+b) hk)
 clear hlook hst hs hm hB1 hBA hd hsA hhome hrd hthA hg hwA hZL
 rw [←hzz] at hzc c7 hlook' hthZ HwA
 clear hzz
 go_enter Tryz.func110,Tryz.ntmps110
 go_wp2_with (refine wpList_store_mid rfl 113 _ _ rfl (w.heap.size+1) 0 ZL.toArray rfl rfl ?h1 ?h2 hallZ ?_)
 case h1=>first|simpa using hthZ|(rw [hZ5] at hthZ;simpa using hthZ)
 case h2=>simpa using hinfoZ
 have hwA':=HwA.out
 subst hwA'
 generalize hww:((w.alloc (.cells ZL.toArray 113)).alloc (.cells ZL.toArray 113)).setCells (w.heap.size+1) 0 ZL=wA at*
 clear hww hlook' c7 hthZ HwA
 go_region_held3 (fun w'=>w'.cell? ⟨q,0,none⟩=some (.pointer (some ⟨p,0,none⟩)))
  (first|exact c0|exact c05)
  (first
   |(go_at_call 127;refine(HH.out _ (below_drew (Below.refl _ _))).mono ?_;rintro e wy ⟨rfl,hwy⟩;have hwy':=hwy.symm;subst hwy';clear hwy)
   |(go_at_call 102;refine(HRd.out _ (below_drew (Below.refl _ _))).mono ?_;rintro e w5 ⟨v,rfl,ho,hd5,hk5⟩;have c05:=((HsA.out.later (below_drew (Below.refl _ _))).keep hk5 hq).c0))
 obtain⟨av,cv,rfl,hsv,hlov⟩:=ho
 rw [HNl.out] at hsv⊢
 obtain⟨b5,o5,rfl⟩:=src_spot hsv (by omega)
 have harr:=arrayCon (some ⟨b5,o5,none⟩) cv
 have hra:=src_range hsv
 have hinfo:=infoConL HNl.out
 have hone:=bs_one (S.now (y.home+b))
 obtain⟨A,hA⟩:∃A,A=bs (S.now (y.home+b)):=⟨_,rfl⟩
 rw [←hA] at hra hinfo hone
 have hF5:A.length=512:=by rw [hA,bs,List.length_map,HNl.out]
 have hall:=all_oneCell_toArray hone
 have hnF:¬F w.heap.size:=fun h=>by have:=HLt.out _ h;omega
 have hth5:=there_keep HTh.out (hk5.block _ hszA hnF)
 have hrs:=Hid.mk (World.rangeAt_setCells_same w5 w.heap.size 0 A (by rw [hF5];exact hth5))
 have hks:=Keeps.setCells (F:=fun j=>j=w.heap.size) rfl A 0 w5
 have HD5:=Hid.mk (hd5.keep hks (fun k hk e=>hnF (e▸hk)))
 have HK5:=Hid.mk ((((Keeps.of_below F HBA.out).trans (Keeps.of_below (fun _=>False) (below_drew (Below.refl wA.heap.size wA))) (fun _ h=>h.elim)).trans hk5 (fun _ h=> .inl h)).trans hks (fun k e=> .inr (by omega)):Keeps F w (w5.setCells w.heap.size 0 A))
 have HA:=Hid.mk hA
 clear hd5 hk5 hsv hlov c0 c05 hone hks hA
 go_wp2_with (first|refine wpList_load_mid rfl 113 _ rfl b5 o5 rfl A _ hra Tryz.underlying113 rfl hinfo ?_|refine wpList_store_mid rfl 113 _ _ rfl w.heap.size 0 A.toArray rfl rfl ?h3 ?h4 hall ?_)
 case h3=>
  have e:A.toArray.size=512:=by simpa using hF5
  rw [e];exact hth5
 case h4=>simpa using hinfo
 refine bodyPost_ret (results_cell_tmp (P:=Tryz.prog) rfl _ _ w.heap.size A _ _ rfl rfl hrs.out Tryz.underlying113 rfl hinfo) rfl ⟨?_,HD5.out,HK5.out⟩
 show _=Ending.returned (.tuple #[.agg (bs (S.now (y.home+b))).toArray, .int .i64 0])
 rw [←HA.out]
 rfl
end Go.Proofs.YtkiehemoiapkkaaGreat
end
section
namespace Go.Proofs.YtkiehemoiapkkaaGreat
open Go.RowKit Go.Maps
structure StW (w:World) (F:Nat→Prop) (p s cR q l m:Nat) (S:DS) (G:SG):Prop where
 d:B.DiskR w F p s S cR
 st:StP w q p l m G.y G.busy
 lp:LogP w l p G.L
 ch:Ch w m G.ov
 nq:¬F q
 nl:¬F l
 nm:¬F m
 ql:q≠l
 qm:q≠m
 lm:l≠m
 lk:G.L.Ok s
 bg:G.L.begun=true
 hs:G.y.home+G.y.blocks≤s
 kb:∀x∈G.ov,x.1<G.y.blocks
abbrev txC (q n:Nat) (T:TG):Array Value:= #[.pointer (some ⟨q,0,none⟩), .map (some n), .int .i64 T.bad, .bool T.ended]
structure TxW (w:World) (F:Nat→Prop) (q l m t n:Nat) (G:SG) (T:TG):Prop where
 tx:w.heap[t]? =some (.cells (txC q n T) 106 (0,0))
 ch:Ch w n T.puts
 nt:¬F t
 nn:¬F n
 tq:t≠q
 tl:t≠l
 tm:t≠m
 tn:t≠n
 nq:n≠q
 nl:n≠l
 nm:n≠m
 kb:∀x∈T.puts,x.1<G.y.blocks
section
variable {w w':World} {F:Nat→Prop} {p s cR q l m t n:Nat} {S:DS} {G:SG} {T:TG}
theorem StW.later (h:StW w F p s cR q l m S G) (hb:Below w.heap.size w w'):StW w' F p s cR q l m S G:=
   ⟨h.d.later hb,h.st.later hb,h.lp.later hb,h.ch.later hb,h.nq,h.nl,h.nm,h.ql,h.qm,h.lm,h.lk,h.bg,h.hs,h.kb⟩
theorem TxW.later (h:TxW w F q l m t n G T) (hb:Below w.heap.size w w'):TxW w' F q l m t n G T:=
   ⟨(hb.block t (lt_there h.tx)).trans h.tx,h.ch.later hb,h.nt,h.nn,h.tq,h.tl,h.tm,h.tn,h.nq,h.nl,h.nm,h.kb⟩
theorem StW.asked {c':Nat} (h:StW w F p s cR q l m S G) (hd:B.DiskR w' F p s S c') (hk:Keeps F w w'):StW w' F p s c' q l m S G:=
   ⟨hd,h.st.keep hk h.nq,h.lp.keep hk h.nl,h.ch.keep hk h.nm,h.nq,h.nl,h.nm,h.ql,h.qm,h.lm,h.lk,h.bg,h.hs,h.kb⟩
theorem TxW.asked (h:TxW w F q l m t n G T) (hk:Keeps F w w'):TxW w' F q l m t n G T:=
   ⟨(hk.block t (lt_there h.tx) h.nt).trans h.tx,h.ch.keep hk h.nn,h.nt,h.nn,h.tq,h.tl,h.tm,h.tn,h.nq,h.nl,h.nm,h.kb⟩
theorem TxW.c0 (h:TxW w F q l m t n G T):w.cell? ⟨t,0,none⟩=some (.pointer (some ⟨q,0,none⟩)):=cell_of_block h.tx (j:=0) rfl
theorem TxW.c1 (h:TxW w F q l m t n G T):w.cell? ⟨t,1,none⟩=some (.map (some n)):=cell_of_block h.tx (j:=1) rfl
theorem TxW.c2 (h:TxW w F q l m t n G T):w.cell? ⟨t,2,none⟩=some (.int .i64 T.bad):=cell_of_block h.tx (j:=2) rfl
theorem TxW.c3 (h:TxW w F q l m t n G T):w.cell? ⟨t,3,none⟩=some (.bool T.ended):=cell_of_block h.tx (j:=3) rfl
theorem StW.dead (h:StW w F p s cR q l m S G):Calls Tryz.prog 108 #[.pointer (some ⟨q,0,none⟩)] w fun e w'=>e= .returned (.bool (G.L.dead S))∧Below w.heap.size w w':=sdead_any h.d h.st h.lp h.lk h.bg
set_option maxRecDepth 20000 in
theorem over_any (h:StW w F p s cR q l m S G) (ht:TxW w F q l m t n G T):
  Calls Tryz.prog 85 #[.pointer (some ⟨t,0,none⟩)] w fun e w'=>e= .returned (.int .i64 (T.over G S))∧Below w.heap.size w w':=by
 have h1:=h.dead
 have c0:=ht.c0
 unfold TG.over
 go_enter Tryz.func85,Tryz.ntmps85
 cases hd:G.L.dead S
 ·rw [hd] at h1
  rw [if_neg (by decide)]
  cases he:T.ended
  ·rw [if_neg (by decide)]
   go_wp2_with fail
   refine h1.mono ?_
   rintro e w1 ⟨rfl,hb1⟩
   have c3:=(ht.later hb1).c3
   rw [he] at c3
   go_wp2
   go_ret
   exact⟨rfl,hb1⟩
  ·rw [if_pos rfl]
   go_wp2_with fail
   refine h1.mono ?_
   rintro e w1 ⟨rfl,hb1⟩
   have c3:=(ht.later hb1).c3
   rw [he] at c3
   go_wp2
   go_ret
   exact⟨rfl,hb1⟩
 ·rw [hd] at h1
  rw [if_pos rfl]
  go_wp2_with fail
  refine h1.mono ?_
  rintro e w1 ⟨rfl,hb1⟩
  go_wp2
  go_ret
  exact⟨rfl,hb1⟩
set_option maxRecDepth 20000 in
theorem state_any (h:StW w F p s cR q l m S G) (ht:TxW w F q l m t n G T):
  Calls Tryz.prog 39 #[.pointer (some ⟨t,0,none⟩)] w fun e w'=>e= .returned (.int .i64 (T.state G S))∧Below w.heap.size w w':=by
 have h1:=over_any h ht
 unfold TG.state
 generalize T.over G S=E at*
 go_enter Tryz.func39,Tryz.ntmps39
 by_cases k:E=0
 ·have d:(E != 0)=false:=by rw [k];rfl
  rw [if_neg (fun h=>h k)]
  go_wp2_with fail
  refine h1.mono ?_
  rintro e w1 ⟨rfl,hb1⟩
  have c2:=(ht.later hb1).c2
  go_wp2
  go_ret
  exact⟨rfl,hb1⟩
 ·have d:(E != 0)=true:=by rw [bne_iff_ne];exact k
  rw [if_pos k]
  go_wp2_with fail
  refine h1.mono ?_
  rintro e w1 ⟨rfl,hb1⟩
  go_wp2
  go_ret
  exact⟨rfl,hb1⟩
set_option maxRecDepth 20000 in
theorem refusal_tx (h:StW w F p s cR q l m S G) (ht:TxW w F q l m t n G T) (b:Int):
  Calls Tryz.prog 67 #[.pointer (some ⟨t,0,none⟩), .int .i64 b] w fun e w'=>e= .returned (.int .i64 (T.refusal G S b))∧Below w.heap.size w w':=by
 have h1:=state_any h ht
 have HS:=h.st
 unfold TG.refusal
 generalize T.state G S=E at*
 go_enter Tryz.func67,Tryz.ntmps67
 by_cases k:E=0
 ·have d:(E != 0)=false:=by rw [k];rfl
  rw [if_neg (fun h=>h k)]
  by_cases k1:b<0
  ·rw [if_pos (.inl k1)]
   go_wp2_with fail
   refine h1.mono ?_
   rintro e w1 ⟨rfl,hb1⟩
   go_wp2
   go_ret
   exact⟨rfl,hb1⟩
  ·by_cases k2:(G.y.blocks:Int)≤b
   ·rw [if_pos (.inr k2)]
    go_wp2_with fail
    refine h1.mono ?_
    rintro e w1 ⟨rfl,hb1⟩
    have c0:=(ht.later hb1).c0
    have c4:=(HS.later hb1).c4
    go_wp2
    go_ret
    exact⟨rfl,hb1⟩
   ·rw [if_neg (fun h=>h.elim k1 k2)]
    go_wp2_with fail
    refine h1.mono ?_
    rintro e w1 ⟨rfl,hb1⟩
    have c0:=(ht.later hb1).c0
    have c4:=(HS.later hb1).c4
    go_wp2
    go_ret
    exact⟨rfl,hb1⟩
 ·have d:(E != 0)=true:=by rw [bne_iff_ne];exact k
  rw [if_pos k]
  go_wp2_with fail
  refine h1.mono ?_
  rintro e w1 ⟨rfl,hb1⟩
  go_wp2
  go_ret
  exact⟨rfl,hb1⟩
end
end Go.Proofs.YtkiehemoiapkkaaGreat
end
section
namespace Go.Proofs.YtkiehemoiapkkaaGreat
open Go.RowKit Go.Maps
theorem committed_any {w:World} {F:Nat→Prop} {p s cR q l m:Nat} {S:DS} {G:SG} (h:StW w F p s cR q l m S G) (b:Nat) (hb:b<G.y.blocks) (hf:S.fuse≠0) (hbig:S.puts.length+1≤4000000000000):
  Calls Tryz.prog 110 #[.pointer (some ⟨q,0,none⟩), .int .i64 (b:Int)] w fun e w'=>e= .returned (.tuple #[cV (G.block S b), .int .i64 0])∧B.DiskR w' F p s S (cR+1)∧Keeps F w w':=by
 have hs:=h.hs
 have hss:=h.d.ok.hi
 unfold SG.block
 cases hg:CM.get G.ov b with
 |none=>
  rw [Option.getD_none]
  exact committed_out h.d h.st h.ch h.nq b (by omega) hg (by omega) hf hbig
 |some c=>
  rw [Option.getD_some]
  refine(committed_in h.st h.ch b hg).mono ?_
  rintro e w' ⟨rfl,hb'⟩
  exact⟨rfl,(h.d.later hb').le (by omega),Keeps.of_below F hb'⟩
theorem block_len {w:World} {F:Nat→Prop} {p s cR q l m:Nat} {S:DS} {G:SG} (h:StW w F p s cR q l m S G) (b:Nat) (hb:b<G.y.blocks):(G.block S b).length=512:=by
 have hs:=h.hs
 unfold SG.block
 cases hg:CM.get G.ov b with
 |none=>rw [Option.getD_none];exact now_len h.d.ok _ (by omega)
 |some c=>rw [Option.getD_some];exact(h.ch.len _ (CM.get_mem hg)).2.1
theorem sees_len {w:World} {F:Nat→Prop} {p s cR q l m t n:Nat} {S:DS} {G:SG} {T:TG} (h:StW w F p s cR q l m S G) (ht:TxW w F q l m t n G T) (b:Nat) (hb:b<G.y.blocks):(T.sees G S b).length=512:=by
 unfold TG.sees
 cases hg:CM.get T.puts b with
 |none=>rw [Option.getD_none];exact block_len h b hb
 |some c=>rw [Option.getD_some];exact(ht.ch.len _ (CM.get_mem hg)).2.1
set_option maxRecDepth 20000 in
set_option maxHeartbeats 8000000 in
theorem sees_in {w:World} {F:Nat→Prop} {q l m t n:Nat} {G:SG} {T:TG} (hs:TxW w F q l m t n G T) (b:Nat) {c:List Int} (hg:CM.get T.puts b=some c):
  Calls Tryz.prog 68 #[.pointer (some ⟨t,0,none⟩), .int .i64 (b:Int)] w fun e w'=>e= .returned (.tuple #[cV c, .int .i64 0])∧Below w.heap.size w w':=by
 have hm:=hs.ch
 have hq5:=hm.len _ (CM.get_mem hg)
 have hzc:=zeroCon
 have hB1:Below w.heap.size w (w.alloc (.cells zsec 113)):=(Below.refl _ w).alloc (Nat.le_refl _) _
 have c7:=(hs.later hB1).c1
 have hlook:=(hm.later hB1).look b hq5.1
 rw [hg] at hlook
 have hst:=con_stored (w.alloc (.cells zsec 113)) hq5.2.1
 rw [World.size_alloc] at hst
 have hinfo:=infoConL hq5.2.1
 have hone:=bs_one c
 have hF5:(bs c).length=512:=by rw [bs,List.length_map,hq5.2.1]
 obtain⟨A,hA⟩:∃A,A=bs c:=⟨_,rfl⟩
 have hlook':(Instr.lookup 94 (.map (some n)) (.int .i64 (b:Int)) true).run Tryz.prog (w.alloc (.cells zsec 113))= .ok (.tuple #[.agg A.toArray, .bool true]) (w.alloc (.cells zsec 113)):=by rw [hA];exact hlook
 have hra:(((w.alloc (.cells zsec 113)).alloc (.cells zsec 113)).setCells (w.heap.size+1) 0 (bs c)).rangeAt (w.heap.size+1) 0 (bs c):=fun j v hv=>by
  have:=hst.1.news j v hv
  rwa [addr_add] at this
 rw [←hA] at hinfo hone hF5 hst hra
 have hth2:=there_keep (con_there w) (hst.2.1.block _ (by simp))
 have hrs:=Hid.mk (World.rangeAt_setCells_same _ w.heap.size 0 A (by rw [hF5];exact hth2))
 have hall:=all_oneCell_toArray hone
 have hB2:=hB1.trans (hst.2.1.mono (by omega))
 have hB3:=Hid.mk (hB2.trans ((Keeps.setCells (F:=fun j=>j=w.heap.size) rfl A 0 _).below (fun j hj=>by omega) hB2.size))
 have hth1:=hst.2.2
 have HA:=Hid.mk hA
 clear hlook hst hs hm hB1 hB2 hone hg hq5 hA
 generalize zsec=Z at*
 go_enter Tryz.func68,Tryz.ntmps68
 go_wp2_with (first|refine wpList_load_mid rfl 113 _ rfl (w.heap.size+1) 0 rfl A _ hra Tryz.underlying113 rfl hinfo ?_|refine wpList_store_mid rfl 113 _ _ rfl (w.heap.size+1) 0 A.toArray rfl rfl ?h1 ?h2 hall ?_|refine wpList_store_mid rfl 113 _ _ rfl w.heap.size 0 A.toArray rfl rfl ?h3 ?h4 hall ?_)
 case h1=>first|simpa using hth1|(rw [hF5] at hth1;simpa using hth1)
 case h2=>simpa using hinfo
 case h3=>
  have e:A.toArray.size=512:=by simpa using hF5
  rw [e];exact hth2
 case h4=>simpa using hinfo
 refine bodyPost_ret (results_cell_tmp (P:=Tryz.prog) rfl _ _ w.heap.size A _ _ rfl rfl hrs.out Tryz.underlying113 rfl hinfo) rfl ⟨?_,hB3.out⟩
 show _=Ending.returned (.tuple #[.agg (bs c).toArray, .int .i64 0])
 rw [←HA.out]
 rfl
set_option maxRecDepth 20000 in
set_option maxHeartbeats 8000000 in
theorem sees_out {w:World} {F:Nat→Prop} {p s cR q l m t n:Nat} {S:DS} {G:SG} {T:TG} (h:StW w F p s cR q l m S G) (hs:TxW w F q l m t n G T) (b:Nat) (hb:b<G.y.blocks) (hg:CM.get T.puts b=none) (hf:S.fuse≠0) (hbig:S.puts.length+1≤4000000000000):
  Calls Tryz.prog 68 #[.pointer (some ⟨t,0,none⟩), .int .i64 (b:Int)] w fun e w'=>e= .returned (.tuple #[cV (G.block S b), .int .i64 0])∧B.DiskR w' F p s S (cR+1)∧Keeps F w w':=by
 have hzc:=zeroCon
 have hss:=h.d.ok.hi
 have hhs:=h.hs
 have hB1:Below w.heap.size w (w.alloc (.cells zsec 113)):=(Below.refl _ w).alloc (Nat.le_refl _) _
 have c7:=(hs.later hB1).c1
 have hlook:=(hs.ch.later hB1).look b (by omega)
 rw [hg] at hlook
 have hlook':(Instr.lookup 94 (.map (some n)) (.int .i64 (b:Int)) true).run Tryz.prog (w.alloc (.cells zsec 113))= .ok (.tuple #[.agg zsec, .bool false]) (w.alloc (.cells zsec 113)):=hlook
 have hst:=con_stored (w.alloc (.cells zsec 113)) (zs_len 512)
 rw [World.size_alloc] at hst
 have hinfoZ:=infoConL (zs_len 512)
 have hallZ:=all_oneCell_toArray (bs_one (zs 512))
 have hthZ:=hst.2.2
 have hzz:(bs (zs 512)).toArray=zsec:=rfl
 obtain⟨ZL,hZL⟩:∃ZL,ZL=bs (zs 512):=⟨_,rfl⟩
 rw [←hZL] at hst hinfoZ hallZ hthZ hzz
 have hZ5:ZL.length=512:=by rw [hZL,bs,List.length_map,zs_len]
 obtain⟨wA,hwA⟩:∃wA,wA=((w.alloc (.cells zsec 113)).alloc (.cells zsec 113)).setCells (w.heap.size+1) 0 ZL:=⟨_,rfl⟩
 have hBA:Below w.heap.size w wA:=by rw [hwA];exact hB1.trans (hst.2.1.mono (by omega))
 have hthA:wA.there w.heap.size 0 512:=by rw [hwA];exact there_keep (con_there w) (hst.2.1.block _ (by simp))
 have hszA:w.heap.size<wA.heap.size:=by
  have:=hst.2.1.size
  rw [hwA]
  rw [World.size_alloc] at this
  omega
 have c0:=(hs.later hBA).c0
 have hcm:=committed_any (h.later hBA) b hb hf hbig
 have HTh:=Hid.mk hthA
 have HBA:=Hid.mk hBA
 have HLt:=Hid.mk h.d.lt
 have HwA:=Hid.mk hwA
 have HNl:=Hid.mk (block_len h b hb)
 clear hlook hst hs hB1 hBA h hthA hg hwA hZL
 rw [←hzz] at hzc c7 hlook' hthZ HwA
 clear hzz
 go_enter Tryz.func68,Tryz.ntmps68
 go_upto_region 4 with (refine wpList_store_mid rfl 113 _ _ rfl (w.heap.size+1) 0 ZL.toArray rfl rfl ?h1 ?h2 hallZ ?_)
 case h1=>first|simpa using hthZ|(rw [hZ5] at hthZ;simpa using hthZ)
 case h2=>simpa using hinfoZ
 have hwA':=HwA.out
 subst hwA'
 generalize hww:((w.alloc (.cells ZL.toArray 113)).alloc (.cells ZL.toArray 113)).setCells (w.heap.size+1) 0 ZL=wA at*
 clear hww hlook' c7 hthZ HwA
 obtain⟨A,hA⟩:∃A,A=bs (G.block S b):=⟨_,rfl⟩
 have hinfo:=infoConL HNl.out
 have hone:=bs_one (G.block S b)
 unfold cV at hcm
 rw [←hA] at hinfo hone hcm
 have hF5:A.length=512:=by rw [hA,bs,List.length_map,HNl.out]
 have hall:=all_oneCell_toArray hone
 have HA:=Hid.mk hA
 clear hone hA
 go_wp2_with fail
 refine hcm.mono ?_
 rintro e w5 ⟨rfl,hd5,hk5⟩
 have hnF:¬F w.heap.size:=fun h=>by have:=HLt.out _ h;omega
 have hth5:=there_keep HTh.out (hk5.block _ hszA hnF)
 have hrs:=Hid.mk (World.rangeAt_setCells_same w5 w.heap.size 0 A (by rw [hF5];exact hth5))
 have hks:=Keeps.setCells (F:=fun j=>j=w.heap.size) rfl A 0 w5
 have HD5:=Hid.mk (hd5.keep hks (fun k hk e=>hnF (e▸hk)))
 have HK5:=Hid.mk (((Keeps.of_below F HBA.out).trans hk5 (fun _ h=> .inl h)).trans hks (fun k e=> .inr (by omega)):Keeps F w (w5.setCells w.heap.size 0 A))
 clear hd5 hk5 c0 hks hcm
 go_wp2_with (refine wpList_store_mid rfl 113 _ _ rfl w.heap.size 0 A.toArray rfl rfl ?h3 ?h4 hall ?_)
 case h3=>
  have e:A.toArray.size=512:=by simpa using hF5
  rw [e];exact hth5
 case h4=>simpa using hinfo
 refine bodyPost_ret (results_cell_tmp (P:=Tryz.prog) rfl _ _ w.heap.size A _ _ rfl rfl hrs.out Tryz.underlying113 rfl hinfo) rfl ⟨?_,HD5.out,HK5.out⟩
 show _=Ending.returned (.tuple #[.agg (bs (G.block S b)).toArray, .int .i64 0])
 rw [←HA.out]
 rfl
theorem sees_any {w:World} {F:Nat→Prop} {p s cR q l m t n:Nat} {S:DS} {G:SG} {T:TG} (h:StW w F p s cR q l m S G) (hs:TxW w F q l m t n G T) (b:Nat) (hb:b<G.y.blocks) (hf:S.fuse≠0) (hbig:S.puts.length+1≤4000000000000):
  Calls Tryz.prog 68 #[.pointer (some ⟨t,0,none⟩), .int .i64 (b:Int)] w fun e w'=>e= .returned (.tuple #[cV (T.sees G S b), .int .i64 0])∧B.DiskR w' F p s S (cR+1)∧Keeps F w w':=by
 unfold TG.sees
 cases hg:CM.get T.puts b with
 |none=>
  rw [Option.getD_none]
  exact sees_out h hs b hb hg hf hbig
 |some c=>
  rw [Option.getD_some]
  refine(sees_in hs b hg).mono ?_
  rintro e w' ⟨rfl,hb'⟩
  exact⟨rfl,(h.d.later hb').le (by omega),Keeps.of_below F hb'⟩
end Go.Proofs.YtkiehemoiapkkaaGreat
end
