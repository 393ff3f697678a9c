import Derived.Test.YtenlkgicpllbhaaGreatV01
import Derived.Test.YtenlkgicpllbhaaGreatV05
import Derived.Scope
import Derived.WalkMore
set_option maxRecDepth 20000
set_option maxHeartbeats 8000000
set_option linter.all false
namespace Go.Proofs.YtenlkgicpllbhaaGreat
open Go.Proofs.Tryz
open Go.RowKit Go.Maps
variable {X ms ns ov:CM} {S:DS} {L:LG} {y:LY} {c c' cR d g j k l n p q rb s:Nat} {Um:Nat->List Int} {Av F F2 Z:Nat->Prop} {G:SG} {T:TG} {v:Value} {w w' w1 w2:World}
theorem eJ {l:List Int} (h:l.length=512):(prog.info? 101).map (·.size)=some (bs l).length:=by
 obtain⟨i,b,a⟩:=Option.map_eq_some_iff.1 Mh;simp only [Prod.mk.injEq] at a;rw [b,bs,List.length_map,h,<-a.2];rfl
theorem eQ (w:World) {c:List Int} (a:c.length=512):jX ((w.alloc (.cells bh 101)).setCells w.heap.size 0 (bs c)) 101 w.heap.size c/\Below w.heap.size w ((w.alloc (.cells bh 101)).setCells w.heap.size 0 (bs c))/\(w.alloc (.cells bh 101)).there w.heap.size 0 (bs c).length:=by
 have bN:(w.alloc (.cells bh 101)).heap[w.heap.size]? =some (.cells bh 101 (0,0)):=heap_alloc_new _ _;have bK:Below w.heap.size w (w.alloc (.cells bh 101)):=(bi _ w).alloc (bP _) _;refine⟨eE (l:=c) bN (by rw [cI,a]),bK.trans ((aa.setCells (F:=λj=>j=w.heap.size) rfl (bs c) 0 _).below (λj b=>by omega) bK.size),?_⟩;rw [bs,List.length_map,a];exact(cE bN cI)
theorem jX.news {T:TypeId} {l:List Int} (h:jX w T g l):∀j u,(bs l)[j]? =some u->w.cell? (((aD g 0):Addr).add j)=some u:=λj u b=>by
 obtain⟨a,rfl⟩:=fq b;rw [aK,Nat.zero_add];exact h.cell a
theorem we {W W':World} {B:Nat} {e:TypeId} {xs:List Value} (h:W.ownsRow B e 1 v n xs) (f:∀g,v.ownBlock=some g->W'.heap[g]? =W.heap[g]?):W'.ownsRow B e 1 v n xs:=by
 obtain⟨b,⟨e,c⟩|⟨g,a,cur,rfl,i,sd,d⟩⟩:=h
 .exact⟨b, .inl ⟨e,c⟩⟩
 .exact⟨b, .inr ⟨g,a,cur,rfl,i,(f g rfl).trans sd,d⟩⟩
theorem D1 (a:j<ms.length):(yr (CM.keys ms))[j]? =some (iV ((ms[j]).1:Int)):=by
 simp [yr,CM.keys,a]
theorem Kh {m:Nat} (h:Ch w m ms):
  Calls prog 173 #[.map (some m)] w λe w'=>(∃B,w.heap.size<=B/\zy B w' (co ms) e)/\bW w w':=by
 obtain⟨L,rt,gv,dr,ec⟩:=info_parts fW;obtain⟨h1,km,d,dh⟩:=cM (wd h) h.small h.len h.ok;have mb:(CM.keys ms).length=ms.length:=by simp [CM.keys]
 rw [mb] at h1;have Pf:=je;have E:=yh h;clear h;go_in;go_wp2_with fail;refine h1.mono ?_;rintro e w1 ⟨a,c,rfl,aY,aq⟩;have acZ:=aq.size;have cm:=Gv (w:=w1) (B:=w1.heap.size) (v:= .slice none 0 0) (l:= []) (World.ownsRow_nil _ _ _ _) (bP _) ms.length 2 (by omega) (by simp);rw [show ((2:Nat):Int)=2 from rfl] at cm;obtain⟨Vx,cN⟩:=bL aY aq;clear h1 aY aq;go_wp2_with fail;refine cm.mono ?_;rintro e P ⟨⟨M,rfl,jo⟩,aW⟩;rw [List.nil_append] at jo;have Vy:=yh (aF jo aW);clear cm jo aW;go_wp2;go_loopw [4,17] (λu i wr=>∃j:Nat,j<=ms.length/\i=iV (j:Int)/\wr.ownsRow w1.heap.size 5 1 u (leb 2 ms.length ++ (ms.take j).flatMap (λq=>leb 4 q.1)).length (bs (leb 2 ms.length ++ (ms.take j).flatMap (λq=>leb 4 q.1)))/\bW w1 wr) (λ_ i _=>ms.length-(intOf i).toNat);case atStart=>exact⟨0,dU _,rfl,by simpa using Vy.o.1,Vy.o.2⟩
 case round=>
  clear Vy;obtain⟨j,J,rfl,az,b⟩:=hrel;have n:=b.size;by_cases bm:j<ms.length
  .have cw:(j:Int)<(ms.length:Int):=(by omega);have Xc:(0:Int)<=(j:Int):=(by omega);obtain⟨g,rfl,I,p⟩:=Vx.o (by simp [CM.keys];intro e;rw [e] at bm;simp at bm);have x:=(p.agree (b.block g p.lt)).cell (D1 bm);have k:=d _ (List.getElem_mem bm);have fy:=Gv az n (ms[j]).1 4 (by omega) (by
    rw [dT,aH,nG,List.length_take];omega)
   rw [show ((4:Nat):Int)=4 from rfl,List.append_assoc,show (ms.take j).flatMap (λq=>leb 4 q.1) ++ leb 4 (ms[j]).1=(ms.take (j+1)).flatMap (λq=>leb 4 q.1) by rw [List.take_succ_eq_append_getElem bm,List.flatMap_append];simp] at fy;have r:=yh b;clear p az b;generalize (ms[j]).1=K at*;go_wp2_with fail;refine fy.mono ?_;rintro e z ⟨⟨N,rfl,Bu⟩,bz⟩;have f:=yh (aF Bu (r.o.trans bz));clear fy Bu bz;go_wp2;go_roundw;case rel=>exact⟨j+1,by omega,by go_num,f.o⟩
   case measure=>simp [intOf];omega
  .have cw:¬(j:Int)<(ms.length:Int):=(by omega);obtain rfl:j=ms.length:=(by omega);rw [List.take_length] at az;have f:=yh (aF az b);clear az b
   rename World=>wo
   go_wp2;go_loopw [4,27] (λu i wr=>∃j:Nat,j<=ms.length/\i=iV (j:Int)/\wr.ownsRow w1.heap.size 5 1 u (leb 2 ms.length ++ ((ms.flatMap λq=>leb 4 q.1) ++ (ms.take j).flatMap (·.2))).length (bs (leb 2 ms.length ++ ((ms.flatMap λq=>leb 4 q.1) ++ (ms.take j).flatMap (·.2))))/\bW w1 wr) (λ_ i _=>ms.length-(intOf i).toNat);case atStart=>exact⟨0,dU _,rfl,by simpa using f.o.1,f.o.2⟩
   case round=>
    clear f;obtain⟨j,J,rfl,az,b⟩:=hrel;have n:=b.size;by_cases bm:j<ms.length
    .have oS:(j:Int)<(ms.length:Int):=(by omega);have Xc:(0:Int)<=(j:Int):=(by omega);obtain⟨g,rfl,I,p⟩:=Vx.o (by simp [CM.keys];intro e;rw [e] at bm;simp at bm);have x:=(p.agree (b.block g p.lt)).cell (D1 bm);have k:=d _ (List.getElem_mem bm);have bt:=eQ wr k.2.1;have aU:=eJ k.2.1;have dI:=cB (ms[j]).2;have pX:(bs (ms[j]).2).length=512:=(by rw [bs,List.length_map,k.2.1]);have zz:leb 2 ms.length ++ ((ms.flatMap λq=>leb 4 q.1) ++ (ms.take (j+1)).flatMap (·.2))=leb 2 ms.length ++ ((ms.flatMap λq=>leb 4 q.1) ++ (ms.take j).flatMap (·.2)) ++ (ms[j]).2:=by
      rw [List.take_succ_eq_append_getElem bm,List.flatMap_append];simp
     have jT:(leb 2 ms.length ++ ((ms.flatMap λq=>leb 4 q.1) ++ (ms.take j).flatMap (·.2))).length<=2000000:=by
      rw [dT,dT,aH,nG,vf (λq k=>(d q (List.mem_of_mem_take k)).2.1),List.length_take];omega
     have mN:(leb 2 ms.length ++ ((ms.flatMap λq=>leb 4 q.1) ++ (ms.take (j+1)).flatMap (·.2))).length=(leb 2 ms.length ++ ((ms.flatMap λq=>leb 4 q.1) ++ (ms.take j).flatMap (·.2))).length+512:=(by rw [zz,dT,k.2.1]);have YL:bs (leb 2 ms.length ++ ((ms.flatMap λq=>leb 4 q.1) ++ (ms.take (j+1)).flatMap (·.2)))=bs (leb 2 ms.length ++ ((ms.flatMap λq=>leb 4 q.1) ++ (ms.take j).flatMap (·.2))) ++ bs (ms[j]).2:=(by rw [zz];simp only [bs,List.map_append]);have s:=yh (aF mN YL);generalize leb 2 ms.length ++ ((ms.flatMap λq=>leb 4 q.1) ++ (ms.take j).flatMap (·.2))=X at*;have Ru:=bt.1.news;obtain⟨A,t⟩:=bQ (bs (ms[j]).2);rw [<-t] at aU dI pX Ru bt;have Zj:(Instr.lookup 93 (.map (some m)) (iV ((ms[j]).1:Int)) false).run prog wr= .ok (.agg A.toArray) wr:=(by rw [t];exact(((E.o.later cN.o).later b).read (ms[j]).1 (CM.get_of_mem dh (List.getElem_mem bm))));have D:=yh t;have bR:=all_oneCell_toArray dI;obtain⟨C,Fh⟩:=bQ ((wr.alloc (.cells bh 101)).setCells wr.heap.size 0 A);have dZ:=bt.2.2;have wg:bW wr C:=(by rw [Fh];exact bt.2.1);have lL:=we az (λq k=>wg.block q (by have:=(az.lt q k).2;omega));have Rv:∀j u,A[j]? =some u->C.cell? (((aD wr.heap.size 0):Addr).add j)=some u:=(by rw [Fh];exact Ru);obtain⟨yv,ac1,Zk⟩:=jS lL Rv Fh;have uM:=λq e=>(az.lt q e).1;have r:=yh (aF b wg);clear bt p az b lL Ru Rv wg t mN YL zz k;generalize (ms[j]).1=K at*;generalize bh=Z at*;go_wp2_with (first|refine wpList_store_mid rfl 101 _ _ rfl wr.heap.size 0 A.toArray rfl rfl ?h1 ?h2 bR ?_|(rw [<-Zk.o];at_builtin;refine wpList_append_own _ rfl _ _ 36 rfl w1.heap.size 5 L (.int .u8 0) 1 1 underlying36 rt gv dr ec rfl (by decide) _ _ _ rfl yv.o (aD wr.heap.size 0) 512 512 A rfl ?n0 ac1.o ?n2 ?n3 ?n4 ?n5 ?_));case h1=>rw [pX] at dZ;simpa using dZ
     case n2=>exact dI
     case n3=>unfold maxLen;omega
     case n4=>omega
     case n5=>rw [<-Zk.o];have:=r.o.2.size;omega
     intro y z cJ aO jx;rw [<-Zk.o] at aO;have bz:=(r.o.1.trans (r.o.2.mono n)).grown aO (by have:=r.o.2.size;omega) (λq e=>uM q e);have fE:zy w1.heap.size z (leb 2 ms.length ++ ((ms.flatMap λq=>leb 4 q.1) ++ (ms.take (j+1)).flatMap (·.2))) (.returned y):=by
      refine⟨y,rfl,?_⟩;rw [s.o.1,s.o.2,<-D.o];simpa [bs] using cJ
     have f:=yh (aF fE bz);clear cJ aO jx fE bz;go_wp2;go_roundw;case rel=>
      obtain⟨⟨O,F,H⟩,G⟩:=f.o;cases F;exact⟨j+1,by omega,by go_num,H,G⟩
     case measure=>simp [intOf];omega
    .have oS:¬(j:Int)<(ms.length:Int):=(by omega);obtain rfl:j=ms.length:=(by omega);rw [List.take_length] at az;have f:=yh (aF az (cN.o.trans (b.mono acZ)));clear az b;go_wp2;go_ret;exact⟨⟨w1.heap.size,acZ,_,rfl,f.o.1⟩,f.o.2⟩
section
namespace B
def Rb (r:Int) (c:Nat):Prop:=c<4611686018427387904->0<=r/\r<=(c:Int)
theorem Rb.read {r:Int} {c:Nat} (h:Rb r c):Rb (wrap64 (r+1)) (c+1):=by
 intro b;have a:=h (by omega);have e:wrap64 (r+1)=r+1:=by unfold wrap64;omega
 rw [e];omega
theorem Rb.le {r:Int} {c:Nat} (h:Rb r c) (hd:c<=d):Rb r d:=by
 intro b;have a:=h (by omega);omega
def ax (w:World) (F:Nat->Prop) (p s:Nat) (S:DS) (c:Nat):Prop:=∃r,aP w F p s (S.DO r)/\Rb r c
section
variable {w w':World} {F G:Nat->Prop} {p s c:Nat} {S:DS}
theorem ax.old (h:ax w F p s S c):Go.Proofs.YtenlkgicpllbhaaGreat.ax w F p s S:=by obtain⟨r,h,_⟩:=h;exact⟨r,h⟩
theorem ax.le (h:ax w F p s S c) (hd:c<=d):ax w F p s S d:=by obtain⟨r,h,a⟩:=h;exact⟨r,h,a.le hd⟩
theorem ax.ok (h:ax w F p s S c):S.Ok s:=h.old.ok
theorem ax.lt (h:ax w F p s S c):∀k,F k->k<w.heap.size:=h.old.lt
theorem ax.au (h:ax w F p s S c) (k:aa G w w') (hd:∀k,F k->¬G k):ax w' F p s S c:=by obtain⟨r,h,a⟩:=h;exact⟨r,h.au k hd,a⟩
theorem ax.later (h:ax w F p s S c) (a:bW w w'):ax w' F p s S c:=h.au (aa.ah (λ_=>False) a) (λ_ _ h=>h)
theorem ax.boxed (h:ax w F p s S c) (o:Obj):ax (w.alloc o) F p s S c:=h.later ((bi w.heap.size w).alloc (bP _) o)
theorem ax.mono (h:ax w F p s S c) (a:∀k,F k->G k) (b:∀k,G k->k<w.heap.size):ax w G p s S c:=by obtain⟨r,h,d⟩:=h;exact⟨r,h.mono a b,d⟩
theorem ax.more (h:ax w' F p s S c):ax w' (more F w w') p s S c:=by obtain⟨r,h,a⟩:=h;exact⟨r,h.more,a⟩
theorem pH (h:ax w F p s S c):Calls prog 47 #[pQ p] w λe w'=>e= .returned (iV s)/\w'=w:=Go.Proofs.YtenlkgicpllbhaaGreat.pH h.old
theorem yU (h:ax w F p s S c):Calls prog 35 #[pQ p] w λe w'=>e= .returned (.bool (S.fuse == 0))/\w'=w:=Go.Proofs.YtenlkgicpllbhaaGreat.yU h.old
theorem vV (h:ax w F p s S c):Calls prog 22 #[pQ p] w λe w'=>e= .returned (iV S.life)/\w'=w:=Go.Proofs.YtenlkgicpllbhaaGreat.vV h.old
theorem zB (h:ax w F p s S c):Calls prog 48 #[pQ p] w λe w'=>e= .returned (iV (wrap64 (S.life+1)))/\ax w' F p s S.take c/\aa F w w':=by
 obtain⟨r,h,d⟩:=h;refine(UK h).mono ?_;rintro e w' ⟨rfl,a,b⟩;exact⟨rfl,⟨r,a,d⟩,b⟩
theorem ot (h:ax w F p s S c) (x:Int) (a:S.fuse=0):Calls prog 39 #[pQ p,iV x] w λe w'=>e= .returned (.tuple #[.slice none 0 0,iV 3])/\w'=w:=Go.Proofs.YtenlkgicpllbhaaGreat.ot h.old x a
theorem zC (h:ax w F p s S c) (k:Nat) (i:k<s) (aT:S.puts.length+1<=4000000000000) (g:S.fuse≠0):
  Calls prog 39 #[pQ p,iV (k:Int)] w λe w'=>∃v,e= .returned (.tuple #[v,iV 0])/\Out w.heap.size w' (S.now k) v/\ax w' F p s S (c+1)/\aa F w w':=by
 obtain⟨r,h,j⟩:=h;have a:=tt h (k:Int) aT;rw [QI (S:=S.DO r) g i] at a;refine a.mono ?_;rintro e w' ⟨v,rfl,b,d,f⟩;exact⟨v,rfl,b,⟨_,d,j.read⟩,f⟩
theorem D2 (h:ax w F p s S c) (x:Int) (a:Option Addr) (n k:Nat) (l:List Int) (i:Src w a n l) (aT:S.puts.length+1<=4000000000000):
  Calls prog 51 #[pQ p,iV x, .slice a n k] w λe w'=>e= .returned (iV (S.wr s x n l).1)/\ax w' (Go.Proofs.YtenlkgicpllbhaaGreat.more F w w') p s (S.wr s x n l).2 c/\aa F w w':=by
 obtain⟨r,h,g⟩:=h;have b:=uQ h x a n k l i aT;rw [QK] at b;refine fk b λw' d f=>?_;exact⟨rfl,⟨r,d,g⟩,f⟩
theorem vg (h:ax w F p s S c) (aT:S.puts.length+1<=4000000000000):
  Calls prog 52 #[pQ p] w λe w'=>e= .returned (iV (S.fl s).1)/\ax w' F p s (S.fl s).2 c/\aa F w w':=by
 obtain⟨r,h,f⟩:=h;have a:=Dc h aT;rw [QL] at a;refine fk a λw' b d=>?_;exact⟨rfl,⟨r,b,f⟩,d⟩
theorem Zl (h:ax w F p s S c) (aT:S.puts.length+1<=4000000000000) (a:Option Addr) (n k:Nat) (l:List P3) (Dt:kS w a n l) (g:n<=140737488355328) (f:∀x,a=some x->¬F x.block):
  Calls prog 28 #[pQ p, .slice a n k] w λe w'=>e= .returned (.tuple #[])/\ax w' F p s (S.il s l) c/\aa F w w':=by
 obtain⟨r,h,i⟩:=h;refine(P0 vL vM h (by show S.puts.length+1<=_;omega) a n k l Dt g f).mono ?_;rintro e w' ⟨rfl,b,d⟩;exact⟨rfl,⟨r,b,i⟩,d⟩
theorem JO (h:ax w F p s S c):Calls prog 33 #[pQ p] w λe w'=>∃g c,e= .returned (.slice (some (aD g 0)) (s*512) c)/\w.heap.size<=g/\ay w' 5 g c (bs S.im)/\bW w w':=Go.Proofs.YtenlkgicpllbhaaGreat.JO h.old
theorem qQ (h:ax w F p s S c) (aT:S.puts.length<=140737488355328) (b:c<4611686018427387904):Calls prog 37 #[pQ p] w λe w'=>∃r:Nat,e= .returned (.agg #[iV (r:Int),iV S.writes,iV S.flushes,iV S.refused,iV (S.puts.length:Int)])/\r<=c/\ax w' F p s S r/\bW w w':=by
 obtain⟨r,h,d⟩:=h;have DA:=d b;obtain⟨k,rfl⟩:∃k:Nat,r=(k:Int):=⟨r.toNat,by omega⟩;refine(Je p s F _ w h aT).mono ?_;rintro e w' ⟨rfl,a⟩;exact⟨k,rfl,by omega,ax.later ⟨_,h,λ_=>by omega⟩ a,a⟩
theorem Rw (S:DS) (r:Int) (s f:Nat) (num:Int) (a:S.fuse≠0):yS (S.DO r) s f num=((cW S s f num).1,(cW S s f num).2.DO (wrap64 (wrap64 (r+1)+1))):=by
 unfold yS cW;rw [aA a];simp only [Va];have e:(S.DO r).read.read=S.DO (wrap64 (wrap64 (r+1)+1)):=rfl;simp only [e,QK];split
 .rfl
 .split
  .rfl
  .simp only [QL]
theorem Vz (h:ax w F p s S c) (f:Nat) (n:Int) (aT:S.puts.length+1<=4000000000000) (d:S.fuse≠0) (i:f+1<s) (aq:Bytes (S.now f)) (aW:Bytes (S.now (f+1))):
  Calls prog 152 #[kw p f n] w λe w'=>e= .returned (.tuple #[iV ((gU (S.now f) (S.now (f+1))).1:Int),iV ((gU (S.now f) (S.now (f+1))).2.1:Int),iV ((gU (S.now f) (S.now (f+1))).2.2:Int)])/\ax w' F p s S (c+2)/\aa F w w':=by
 obtain⟨r,h,g⟩:=h;refine(JN h f n aT d i aq aW).mono ?_;rintro e w' ⟨rfl,a,b⟩;exact⟨rfl,⟨_,a,g.read.read⟩,b⟩
theorem tI (h:ax w F p s S c) (f n:Int):Calls prog 103 #[kw p f n] w λe w'=>e= .returned (iV (cq S s f n))/\bW w w':=Go.Proofs.YtenlkgicpllbhaaGreat.tI h.old f n
end
theorem Ki {w:World} {F:Nat->Prop} {p s c:Nat} {S:DS} (h:ax w F p s S c) (f:Nat) (n:Int) (E T:Int) (aT:S.puts.length+1<=4000000000000) (a:S.fuse=0):
  Calls prog 105 #[kw p f n,iV E,iV T] w λe w'=>e= .returned (iV 3)/\ax w' F p s S c/\aa F w w':=by
 obtain⟨r,h,d⟩:=h;go_in;go_wp2_with fail;refine(Ng (h.boxed (.cells #[.pointer (some ⟨p,0,none⟩), .int .i64 f, .int .i64 n] 144)) f n aT a).mono ?_;rintro e w1 ⟨rfl,hd,b⟩;go_wp2;go_ret;exact⟨rfl,⟨r,hd,d⟩,(aa.boxed (w:=w) F (.cells #[.pointer (some ⟨p,0,none⟩), .int .i64 f, .int .i64 n] 144)).trans b (λ_ h=> .inl h)⟩
theorem Kj {w:World} {F:Nat->Prop} {p s c:Nat} {S:DS} (h:ax w F p s S c) (f:Nat) (n:Int) (E T:Nat) (i:E<=1073741824) (j:T<=1073741824) (aT:S.puts.length+2<=4000000000000) (l:f+1<s) (aq:Bytes (S.now f)) (aW:Bytes (S.now (f+1))):
  Calls prog 105 #[kw p f n,iV (E:Int),iV (T:Int)] w λe w'=>e= .returned (iV (cW S s f ((E:Int)*4294967296+T)).1)/\ax w' (more F w w') p s (cW S s f ((E:Int)*4294967296+T)).2 (c+2)/\aa F w w':=by
 by_cases b:S.fuse=0
 .refine(Ki h f n E T (by omega) b).mono ?_;rintro e w' ⟨rfl,a,d⟩;unfold cW;rw [aE b];exact⟨rfl,a.more.le (by omega),d⟩
 .obtain⟨r,h,k⟩:=h;have a:=Nj h f n E T i j aT b l aq aW;rw [(Rw S r s f ((E:Int)*4294967296+T) b)] at a;refine fk a λw' d g=>?_;exact⟨rfl,⟨_,d,k.read.read⟩,g⟩
end B
end
section
namespace B
theorem ax.from {w:World} {F:Nat->Prop} {p s:Nat} {S:DS} (h:ax w2 (Go.Proofs.YtenlkgicpllbhaaGreat.more F w1 w2) p s S c) (b:∀k,F k->k<w.heap.size) (d:w.heap.size<=w1.heap.size) (e:w1.heap.size<=w2.heap.size):ax w2 (Go.Proofs.YtenlkgicpllbhaaGreat.more F w w2) p s S c:=
 h.mono (λk a=>by rcases a with a|a;exact .inl a;exact .inr ⟨by omega,a.2⟩) (cG b (by omega))
theorem ax.wide {w:World} {F:Nat->Prop} {p s:Nat} {S:DS} (h:ax w2 (Go.Proofs.YtenlkgicpllbhaaGreat.more F w w1) p s S c) (b:∀k,F k->k<w.heap.size) (d:w.heap.size<=w1.heap.size) (e:w1.heap.size<=w2.heap.size):ax w2 (Go.Proofs.YtenlkgicpllbhaaGreat.more F w w2) p s S c:=
 h.mono (λk a=>by rcases a with a|a;exact .inl a;exact .inr ⟨a.1,by omega⟩) (cG b (by omega))
section
variable {w:World} {F:Nat->Prop} {p s l cR:Nat} {S:DS} {L:LG}
theorem tJ (h:ax w F p s S cR) (a:cQ w l p L):
  Calls prog 112 #[pQ l] w λe w'=>e= .returned (.bool (L.dead S))/\bW w w':=Go.Proofs.YtenlkgicpllbhaaGreat.tJ h.old a
theorem jp (h:ax w F p s S cR) (a:cQ w l p L):
  Calls prog 161 #[pQ l] w λe w'=>e= .returned (iV (L.bd S))/\bW w w':=Go.Proofs.YtenlkgicpllbhaaGreat.jp h.old a
theorem zD (h:ax w F p s S cR) (b:cQ w l p L) (j:¬F l) (aT:S.puts.length+1<=4000000000000):
  Calls prog 128 #[pQ l] w λe w'=>e= .returned (iV (L.sync S s).1)/\ax w' F p s (L.sync S s).2 cR/\cQ w' l p L/\aa F w w':=by
 have g:=jp h b;have f:=b;have c:=h;unfold LG.sync;generalize L.bd S=U at*;go_in;by_cases q:U=0
 .subst q;rw [aA (by decide)];go_wp2_with fail;refine bE g λw1 a=>?_;have b:=f.later a;have k:=b.c0;go_wp2_with fail;refine(vg (c.later a) aT).mono ?_;rintro e m ⟨rfl,hd,i⟩;go_wp2;go_ret;exact⟨rfl,aF hd (aF (b.au i j) ((aa.ah F a).trans i (λ_ h=> .inl h)))⟩
 .rw [aE q];have d:(U == 0)=false:=by rw [eG];exact q
  go_wp2_with fail;refine bE g λw1 a=>?_;go_wp2;go_ret;exact⟨rfl,aF (c.later a) (aF (f.later a) (aa.ah F a))⟩
end
end B
end
section
abbrev Pg (p l m:Nat) (y:LY) (busy:Bool):Array Value:= #[pQ p,pQ l,iV (y.log:Int),iV (y.home:Int),iV (y.blocks:Int),iV (y.nodes:Int),iV (y.data:Int), .map (some m), .bool busy]
def mZ (w:World) (q p l m:Nat) (y:LY) (busy:Bool):Prop:=w.heap[q]? =some (.cells (Pg p l m y busy) 95 (0,0))
section
variable {w w':World} {q p l m:Nat} {y:LY} {busy:Bool}
theorem mZ.lt (h:mZ w q p l m y busy):q<w.heap.size:=aw h
theorem mZ.au {G:Nat->Prop} (h:mZ w q p l m y busy) (k:aa G w w') (a:¬G q):mZ w' q p l m y busy:=(k.block q h.lt a).trans h
theorem mZ.later (h:mZ w q p l m y busy) (a:bW w w'):mZ w' q p l m y busy:=(a.block q h.lt).trans h
theorem mZ.c0 (h:mZ w q p l m y busy):w.cell? (aD q 0)=some (pQ p):=aL h
theorem mZ.c1 (h:mZ w q p l m y busy):w.cell? (aD q 1)=some (pQ l):=bD h
theorem mZ.c3 (h:mZ w q p l m y busy):w.cell? (aD q 3)=some (iV (y.home:Int)):=fI h
theorem mZ.c4 (h:mZ w q p l m y busy):w.cell? (aD q 4)=some (iV (y.blocks:Int)):=gz h
theorem mZ.c7 (h:mZ w q p l m y busy):w.cell? (aD q 7)=some (.map (some m)):=ri h
theorem mZ.c8 (h:mZ w q p l m y busy):w.cell? (aD q 8)=some (.bool busy):=Dg h
end
theorem Gx {w:World} {q p l m:Nat} {y:LY} {a:Bool} (h:mZ w q p l m y a) (b:Nat) (d:y.home+b<=1000000):
  Calls prog 160 #[pQ q,iV (b:Int)] w λe w'=>e= .returned (iV ((y.home:Int)+(b:Int)))/\w'=w:=by
 have c:=h.c3;go_in;go_wp2;go_ret;exact⟨rfl,rfl⟩
theorem jt (S:DS) (s h:Nat) (q:Nat×List Int) (a:CM):sbring S s h (q :: a)=if (S.wr s ((h+q.1:Nat):Int) 512 q.2).1≠0 then S.wr s ((h+q.1:Nat):Int) 512 q.2 else sbring (S.wr s ((h+q.1:Nat):Int) 512 q.2).2 s h a:=rfl
theorem fi (S:DS) (s h:Nat):∀(a b:CM),sbring S s h (a ++ b)=if (sbring S s h a).1≠0 then sbring S s h a else sbring (sbring S s h a).2 s h b
 | [],b=>by simp [sbring]
 |q :: qs,b=>by
  rw [List.cons_append,jt,jt];by_cases e:(S.wr s ((h+q.1:Nat):Int) 512 q.2).1≠0
  .rw [aE e,aE e,aE e]
  .rw [aA e,aA e];exact fi _ s h qs b
theorem eA (S:DS) (s h:Nat):∀(ms:CM),(sbring S s h ms).2.puts.length<=S.puts.length+ms.length:=λms=>by
 induction ms generalizing S with
 |nil=>exact bP _
 |cons q c a=>
  have b:=i9 S s ((h+q.1:Nat):Int) 512 q.2;unfold sbring;split
  .rw [List.length_cons];omega
  .have:=a (S.wr s ((h+q.1:Nat):Int) 512 q.2).2;rw [List.length_cons];omega
theorem rG {w:World} {p q l m:Nat} {y:LY} {G:Bool} (hd:B.ax w F p s S c) (hs:mZ w q p l m y G) (C:Ch w m ms) (hq:¬F q) (TW:¬F m) (b:∀x∈ms,y.home+x.1<s) (aT:S.puts.length+3000<=4000000000000):
  Calls prog 111 #[pQ q] w λe w'=>e= .returned (iV (sbring S s y.home ms).1)/\B.ax w' (more F w w') p s (sbring S s y.home ms).2 c/\aa F w w':=by
 obtain⟨h1,km,I,dh,Mb⟩:=ey (wd C) C.small C.len C.ok hd.ok.hi;have mb:(CM.keys ms).length=ms.length:=by simp [CM.keys]
 rw [mb] at h1;obtain⟨Pf,M,ib,HD,HS,HM⟩:=kQ je hs.c7 (yh hd.lt) (yh hd) (yh hs) (yh C);clear hd hs C;go_in;go_wp2_with fail;refine h1.mono ?_;rintro e w1 ⟨a,ca,rfl,aY,aq⟩;obtain⟨dr,Vx,Rx,oN,P,cN⟩:=kQ aq.size (yh aY) (yh (HD.o.later aq)) (yh (HS.o.later aq)) (yh (HM.o.later aq)) (yh aq);clear h1 aY aq HD HS HM M;go_wp2;go_loopw [13] (λi wr=>∃j:Nat,j<=ms.length/\i=iV (j:Int)/\(sbring S s y.home (ms.take j)).1=0/\B.ax wr (more F w1 wr) p s (sbring S s y.home (ms.take j)).2 c/\aa F w1 wr) (λi _=>ms.length-(intOf i).toNat);case atStart=>exact⟨0,dU _,rfl,rfl,Rx.o.more,aa.refl _ _⟩
 case round=>
  clear Rx;obtain⟨j,hj,rfl,J,hd,fP⟩:=hrel;have W:=fP.size;by_cases bm:j<ms.length
  .have cw:(j:Int)<(ms.length:Int):=(by omega);have Xc:(0:Int)<=(j:Int):=(by omega);obtain⟨g,rfl,hg,X⟩:=Vx.o (by simp [CM.keys];intro e;rw [e] at bm;simp at bm);have U:¬F g:=λT=>by have:=ib.o _ T;omega
   have H:=(X.agree (fP.block g X.lt U)).cell (D1 bm);have nH:=I _ (List.getElem_mem bm);have eF:=b _ (List.getElem_mem bm);have kP:=oN.o.au fP hq;obtain⟨M,bt,aU,dI⟩:=cM kP.c7 (eQ wr nH.2.1) (eJ nH.2.1) (cB (ms[j]).2);have pX:(bs (ms[j]).2).length=512:=(by rw [bs,List.length_map,nH.2.1]);have sB:=eA S s y.home (ms.take j);have fZ:sbring S s y.home (ms.take (j+1))=(sbring S s y.home (ms.take j)).2.wr s ((y.home+(ms[j]).1:Nat):Int) 512 (ms[j]).2:=by
    rw [List.take_succ_eq_append_getElem bm,fi,aA (λh=>h J)];simp only [sbring];split
    .rfl
    .rename_i h;generalize DS.wr _ _ _ _ _=Z at*;rw [<-(Decidable.byContradiction h)]
   have mO:sbring S s y.home ms=if (sbring S s y.home (ms.take (j+1))).1≠0 then sbring S s y.home (ms.take (j+1)) else sbring (sbring S s y.home (ms.take (j+1))).2 s y.home (ms.drop (j+1)):=by
    conv=>lhs;rw [<-List.take_append_drop (j+1) ms]
    exact fi S s y.home _ _
   obtain⟨r,Fh⟩:=bQ ((wr.alloc (.cells bh 101)).setCells wr.heap.size 0 (bs (ms[j]).2));have wg:bW wr r:=(by rw [Fh];exact bt.2.1);have aZ:jX r 101 wr.heap.size (ms[j]).2:=(by rw [Fh];exact bt.1);have fJ:Src r (some (aD wr.heap.size 0)) 512 (ms[j]).2:=by
    have:=aZ.src (o:=0) (n:=512) (by omega);rwa [List.drop_zero,nh (by omega)] at this
   have t:=kP.later wg;have Gy:=λ(wx:World) (O:bW r wx)=>Gx (t.later O) (ms[j]).1 (by omega);have Zm:=λ(wx:World) (O:bW r wx)=>B.D2 ((hd.later wg).later O) ((y.home+(ms[j]).1:Nat):Int) (some (aD wr.heap.size 0)) 512 512 (ms[j]).2 (fJ.later O) (by rw [List.length_take] at sB;omega);rw [<-fZ,Int.natCast_add] at Zm;have L:=t.c0;obtain⟨A,N⟩:=bQ (bs (ms[j]).2);rw [<-N] at aU dI pX Fh;have Zj:(Instr.lookup 93 (.map (some m)) (iV ((ms[j]).1:Int)) false).run prog wr= .ok (.agg A.toArray) wr:=(by rw [N];exact((P.o.au fP TW).read (ms[j]).1 (CM.get_of_mem dh (List.getElem_mem bm))));have dZ:=bt.2.2;rw [<-N] at dZ;obtain⟨bR,E,HH,z,u,HK,HE⟩:=nW (all_oneCell_toArray dI) (yh t) (yh Gy) (yh Zm) (yh wg) (yh fP) (yh mO);clear bt X hd fP kP t wg aZ fJ N nH Gy Zm fZ mO sB J;obtain⟨Y,R⟩:=bQ (sbring S s y.home (ms.take (j+1)));rw [<-R] at z HE;have HY:=yh R;clear R;generalize (ms[j]).1=K at*;generalize bh=Z at*;go_wp2_with (refine wpList_store_mid rfl 101 _ _ rfl wr.heap.size 0 A.toArray rfl rfl ?h1 ?h2 bR ?_);case h1=>first|simpa using dZ|(rw [pX] at dZ;simpa using dZ)
   case h2=>simpa using aU
   have Ry:=(yh Fh).out;subst Ry;have Kk:¬more F w1 wr q:=λh=>by
    rcases h with h|h
    .exact hq h
    .have:=oN.o.lt;omega
   have Mi:Yh (∀k,F k->k<w1.heap.size):=λk T=>by have:=ib.o k T;omega
   generalize Ry:(wr.alloc (.cells Z 101)).setCells wr.heap.size 0 A=r at*;clear Ry;have hzS:=u.o.size;by_cases D:Y.1=0
   .have dY:(Y.1 != 0)=false:=(by rw [D];rfl);go_region_held3 (λw'=>w'.cell? (aD q 0)=some (pQ p))
     (first|exact L|exact Uf)
     (first
      |(go_at_call 160;refine(HH.o _ (ai (bi _ _))).mono ?_;rintro e wy ⟨rfl,rH⟩;have mP:=rH.symm;subst mP;clear rH)
      |(go_at_call 51;refine(z.o _ (ai (bi _ _))).mono ?_;rintro e w5 ⟨rfl,jy,dX⟩;have Uf:=((E.o.later (ai (bi _ _))).au dX Kk).c0))
    have qE:r.heap.size<=w5.heap.size:=dX.size;have d:=jy.mono (λk b=>by
     rcases b with (b|b)|b
     .exact .inl b
     .exact .inr ⟨b.1,by omega⟩
     .have:r.heap.size<=k:=b.1;exact .inr ⟨by omega,b.2⟩) (cG (F:=F) (w:=w1) Mi.o (by omega))
    have f:=(HK.o.trans (aa.ah (λ_=>False) (ai u.o)) (λ_ h=>h.elim)).trans dX (λk b=>by
     rcases b with b|b
     .exact .inl b
     .exact .inr b.1)
    obtain⟨v,Ug⟩:=bL (aF d f) D;clear jy dX Uf d f D L M H;go_wp2;go_roundw;case rel=>exact⟨j+1,by omega,by go_num,by rw [<-HY.o];exact Ug.o,by rw [<-HY.o];exact v.o.1,v.o.2⟩
    case measure=>simp [intOf];omega
   .have dY:(Y.1 != 0)=true:=(by rw [fT];exact D);go_region_held3 (λw'=>w'.cell? (aD q 0)=some (pQ p))
     (first|exact L|exact Uf)
     (first
      |(go_at_call 160;refine(HH.o _ (ai (bi _ _))).mono ?_;rintro e wy ⟨rfl,rH⟩;have mP:=rH.symm;subst mP;clear rH)
      |(go_at_call 51;refine(z.o _ (ai (bi _ _))).mono ?_;rintro e w5 ⟨rfl,jy,dX⟩;have Uf:=((E.o.later (ai (bi _ _))).au dX Kk).c0))
    have qE:r.heap.size<=w5.heap.size:=dX.size;have d:=jy.mono (λk b=>by
     rcases b with (b|b)|b
     .exact .inl b
     .exact .inr ⟨b.1,by omega⟩
     .have:r.heap.size<=k:=b.1;exact .inr ⟨by omega,b.2⟩) (cG (F:=F) (w:=w1) Mi.o (by omega))
    have f:=(HK.o.trans (aa.ah (λ_=>False) (ai u.o)) (λ_ h=>h.elim)).trans dX (λk b=>by
     rcases b with b|b
     .exact .inl b
     .exact .inr b.1)
    have Q:=HE.o;rw [aE D] at Q;obtain⟨v,HEq⟩:=bL (aF (d.from ib.o dr (by omega)) ((aa.ah F cN.o).trans f (λ_ h=> .inl h))) Q;clear jy dX Uf d f D L M H Q;go_wp2;go_ret;exact⟨by rw [HEq.o];rfl,by rw [HEq.o];exact v.o.1,v.o.2⟩
  .have cw:¬(j:Int)<(ms.length:Int):=(by omega);obtain rfl:j=ms.length:=(by omega);rw [List.take_length] at J hd;obtain⟨HZ,v⟩:=bL J (aF (hd.from ib.o dr W) ((aa.ah F cN.o).trans fP (λ_ h=> .inl h)));clear hd fP J;go_wp2;go_ret;exact⟨by rw [HZ.o];rfl,v.o⟩
end
theorem xH (w:World):Calls prog 157 #[.bool true] w λe w'=>e= .returned (.tuple #[])/\w'=w:=by
 go_in;go_wp2
 go_end0
 exact⟨rfl,rfl⟩
abbrev CF:List PanicEntry:= [{v:= .iface 49 (iV 6),recovered:=false}]
theorem xI (w:World):Calls prog 157 #[.bool false] w λe w'=>e= .panicked CF/\w'=w:=by
 go_in;go_wp2;exact⟨rfl,rfl,rfl⟩
def Ph (Av:Nat->Prop) (w:World) (rb:Nat) (l:List Int):Prop:=∃a n c,w.heap[rb]? =some (.cells #[.slice a n c] 192 (0,0))/\Src w a n l/\n<=c/\c<=9223372036854775807/\n<=1000000/\∀x,a=some x->0<n->x.block≠rb/\Av x.block
theorem NQ (a b o n c k:Nat) (w:World) (h:w.heap[a]? =some (.cells #[.slice (some ⟨b,o,none⟩) n c] 192 (0,0))) (u:k<=n) (v:n<=c) (i:n<=1000000) (mY:c<=9223372036854775807):
  Calls prog 158 #[pQ a,iV (k:Int)] w λe w'=>∃a',e= .returned (.slice (some (aD b o)) k c)/\w'.heap[a]? =some (.cells #[.slice a' (n-k) (c-k)] 192 (0,0))/\(k<c->a'=some ⟨b,o+k,none⟩)/\aa (λj=>j=a) w w':=by
 have s:=aL h;have t:=ae h 0;have ac4:(k:Int)<=(n:Int):=by omega
 have m:(0:Int)<=(k:Int):=by omega
 have p:(k:Int)<=(c:Int):=by omega
 have r:(n:Int)<=(c:Int):=by omega
 have g:=xH;have H:=h;go_in;by_cases xJ:k<c
 .have q:¬c=k:=by omega
  have f:((w.setCell ⟨a,0,none⟩ (.slice (some ⟨b,o+k,none⟩) (n-k) (c-k))).heap[a]? =some (.cells #[.slice (some ⟨b,o+k,none⟩) (n-k) (c-k)] 192 (0,0))):=(heap_setCell_same _ _ 0 _ _ _ H).trans (by simp);have d:=(aJ (F:=λj=>j=a) w rfl 0 (.slice (some ⟨b,o+k,none⟩) (n-k) (c-k)));go_wp2_with (go_at_call 157;refine(g _).mono ?_;rintro e l ⟨rfl,rH⟩;have mP:=rH.symm;subst mP;clear rH);go_ret;exact⟨_,rfl,f,λ_=>rfl,d⟩
 .obtain rfl:c=k:=by omega
  obtain rfl:n=c:=by omega
  have f:((w.setCell ⟨a,0,none⟩ (.slice (some ⟨b,o,none⟩) 0 0)).heap[a]? =some (.cells #[.slice (some ⟨b,o,none⟩) (n-n) (n-n)] 192 (0,0))):=by
   rw [Nat.sub_self];exact(heap_setCell_same _ _ 0 _ _ _ H).trans (by simp)
  have d:=(aJ (F:=λj=>j=a) w rfl 0 (.slice (some (aD b o)) 0 0));go_wp2_with (go_at_call 157;refine(g _).mono ?_;rintro e l ⟨rfl,rH⟩;have mP:=rH.symm;subst mP;clear rH);go_ret;exact⟨_,rfl,f,λh=>by omega,d⟩
theorem Gz {l:List Int} (h:Ph Av w rb l) (k:Nat) (eH:1<=k) (u:k<=l.length):
  Calls prog 158 #[pQ rb,iV (k:Int)] w λe w'=>∃b o c,e= .returned (.slice (some (aD b o)) k c)/\Src w' (some (aD b o)) k (l.take k)/\b≠rb/\Ph Av w' rb (l.drop k)/\aa (λj=>j=rb) w w':=by
 obtain⟨a,n,c,h0,g,XA,mY,NR,dG⟩:=h;have A9:=g.1;obtain⟨b,o,rfl⟩:=cT g (by omega);have dO:b≠rb:=(dG _ rfl (by omega)).1;have f:Av b:=(dG _ rfl (by omega)).2;refine(NQ rb b o n c k w h0 (by omega) XA NR mY).mono ?_;rintro e w' ⟨q,rfl,r,p,xq⟩;have d:=g.nB xq (λy s _ e=>by cases s;exact dO e);refine⟨b,o,c,rfl,?_,dO,⟨q,n-k,c-k,r,?_,by omega,by omega,by omega,λx m v=>?_⟩,xq⟩
 .have:=d.sub 0 k (by omega);simpa using this
 .by_cases e:k<c
  .rw [p e];have:=d.sub k (n-k) (by omega);rwa [nh (by rw [List.length_drop];omega)] at this
  .refine⟨by rw [List.length_drop];omega,λ_=>by omega,λx m i t=>by omega⟩
 .rw [p (by omega)] at m;cases m;exact⟨dO,f⟩
theorem GA {l:List Int} (h:Ph Av w rb l) (k:Nat) (i:l.length<k) (b:k<=1000):
  Calls prog 158 #[pQ rb,iV (k:Int)] w λe w'=>e= .panicked CF/\w'=w:=by
 obtain⟨a,n,c,h0,f,XA,mY,NR,dG⟩:=h;have A9:=f.1;have g:=aL h0;have ac4:¬(k:Int)<=(n:Int):=by omega
 have d:=xI;go_in;go_wp2_with (go_at_call 157;refine(d _).mono ?_;rintro e j ⟨rfl,rH⟩;have mP:=rH.symm;subst mP;clear rH);exact⟨rfl,rfl,rfl⟩
theorem zE {l:List Int} (h:Ph Av w rb l) (k:Nat) (a:l.length<k) (ji:k<=1000):
  Calls prog 156 #[pQ rb,iV (k:Int)] w λe w'=>e= .panicked CF/\w'=w:=by
 go_in;go_wp2_with fail;refine(GA h k a ji).mono ?_;rintro e w1 ⟨rfl,b⟩;have ez:=b.symm;subst ez;exact⟨rfl,rfl,rfl⟩
theorem zG {a:List Int} (h:Ph Av w rb a) (kv:Bytes a) (k:Nat) (eH:1<=k) (dV:k<=4) (C:k<=a.length):
  Calls prog 156 #[pQ rb,iV (k:Int)] w λe w'=>e= .returned (iV ((le (a.take k):Nat):Int))/\Ph Av w' rb (a.drop k)/\aa (λj=>j=rb) w w':=by
 have n:=Gz h k eH C;clear h;go_in;go_wp2_with fail;refine n.mono ?_;rintro e w1 ⟨b,o,c,rfl,s,_,q,fP⟩;have u:=yh (aF q fP);have d:=kv.take k;have D:(a.take k).length=k:=by rw [List.length_take];omega
 have m:Yh (∀i,i<k->w1.cell? ⟨b,o+i,none⟩=some (.int .u8 ((a.take k).getD i 0))):=λi z=>by
  have:=s.2.2 _ rfl i z;rwa [aK] at this
 obtain⟨l,g⟩:=bQ (a.take k);rw [<-g] at d D m;have t:=yh g;clear g;clear n q fP s;go_wp2;go_loopw [5,12] (λr i wr=>∃j:Nat,j<=k/\i=iV j/\wr=w1/\r=iV ((le (l.take j):Nat):Int)) (λ_ i _=>k-(intOf i).toNat);case atStart=>exact⟨0,dU _,rfl,rfl,by simp [le]⟩
 case round=>
  obtain⟨j,F,rfl,NS,rfl⟩:=hrel;subst NS;by_cases bm:j<k
  .have cw:(j:Int)<(k:Int):=(by omega);have y:=m.o j bm;obtain⟨x,E,jA⟩:∃x:Nat,l.getD j 0=(x:Int)/\x<256:=by
    have:=d.getD j;exact⟨(l.getD j 0).toNat,by omega,by omega⟩
   have io:=lq (l:=l) (k:=j) (by omega);have p:le (l.take j)<2 ^ (8*j):=by
    have:=lg (d.take j);have e:(l.take j).length=j:=(by simp;omega);rwa [e] at this
   have f:le (l.take (j+1))<9223372036854775808:=Cq (d.take _) (by simp;omega);rw [E] at y io;simp only [Int.toNat_natCast] at io;rw [io] at f;have MV:=QJ (8*j) _ x p f;rw [<-io] at MV;have YP:((x:Int)*2 ^ (8*j))=((2 ^ (8*j)*x:Nat):Int):=(by rw [Int.natCast_mul,Int.natCast_pow,Int.mul_comm];rfl);have oS:((2 ^ (8*j)*x:Nat):Int)<9223372036854775808:=(by omega);generalize 2 ^ (8*j)*x=Y at*;generalize le (l.take j)=A at*;clear p f io;go_wp2;go_roundw;case rel=>exact⟨j+1,by omega,by go_num,trivial,by rw [<-(yh MV).out]⟩
   case measure=>simp [intOf];omega
  .have cw:¬(j:Int)<(k:Int):=(by omega);have v:l.take j=l:=nh (by omega);rw [v] at*;go_wp2;go_ret;exact⟨by rw [<-t.o];rfl,u.o⟩
theorem NT {m:Nat} {a:Bool} (hd:B.ax w F p s S c) (i:mZ w q p l m y a) (g:cQ w l p L) (f:L.Ok s) (d:L.begun=true):
  Calls prog 58 #[pQ q] w λe w'=>e= .returned (.bool (L.dead S))/\bW w w':=by
 have b:=F9 hd.old g f;have n:((L.room S).2 == 3)=L.dead S:=by
  unfold LG.room LG.bd;cases yq:L.dead S
  .rw [aA (show¬false=true by decide),aE d,aA (λh=>h rfl)];rfl
  .rw [aE rfl,aE (by decide)];rfl
 have k:=i.c1;generalize (L.room S).2=E at*;generalize (L.room S).1=j at*;go_in;go_wp2_with fail;refine bE b λw1 aq=>?_;go_wp2;go_ret;exact⟨rfl,aq⟩
theorem qR (w:World):(w.alloc (.cells bh 101)).there w.heap.size 0 512:=cE (heap_alloc_new _ _) cI
theorem zH (a:Option Addr) (c:Nat) (w:World):(Instr.arrayAt 101 (.slice a 512 c)).run prog w= .ok (.pointer a) w:=by
 simp [Instr.arrayAt,run_underlying underlying101]
theorem j4 (h:w.there g 0 n) (c:w'.heap[g]? =w.heap[g]?):w'.there g 0 n:=by
 intro j e;obtain⟨d,b⟩:=h j e;refine⟨?_,?_⟩
 .rw [World.cell?_of_block (w:=w) (w':=w') (a:=⟨g,0+j,none⟩) c];exact d
 .unfold World.frozen? at b⊢;rw [show w'.heap[g]? =w.heap[g]? from c];exact b
theorem D3 {m:Nat} {a:Bool} (i:mZ w q p l m y a) (g:Ch w m ov) (b:Nat) {c:List Int} (f:CM.get ov b=some c):
  Calls prog 114 #[pQ q,iV (b:Int)] w λe w'=>e= .returned (.tuple #[cV c,iV 0])/\bW w w':=by
 have nH:=g.len _ (CM.get_mem f);have Pf:=je;have bK:bW w (w.alloc (.cells bh 101)):=(bi _ w).alloc (bP _) _;have r:=(i.later bK).c7;have gG:=(g.later bK).look b nH.1;rw [f] at gG;have bt:=eQ (w.alloc (.cells bh 101)) nH.2.1;rw [World.size_alloc] at bt;have aU:=eJ nH.2.1;have dI:=cB c;have pX:(bs c).length=512:=by rw [bs,List.length_map,nH.2.1]
 obtain⟨A,d⟩:=bQ (bs c);have sC:(Instr.lookup 93 (.map (some m)) (iV (b:Int)) true).run prog (w.alloc (.cells bh 101))= .ok (.tuple #[.agg A.toArray, .bool true]) (w.alloc (.cells bh 101)):=by rw [d];exact gG
 have A6:(((w.alloc (.cells bh 101)).alloc (.cells bh 101)).setCells (w.heap.size+1) 0 (bs c)).rangeAt (w.heap.size+1) 0 (bs c):=λj v n=>by
  have:=bt.1.news j v n;rwa [aK] at this
 rw [<-d] at aU dI pX bt A6;have Rz:=j4 (qR w) (bt.2.1.block _ (by simp));have pi:=yh (World.rangeAt_setCells_same _ w.heap.size 0 A (by rw [pX];exact Rz));have bR:=all_oneCell_toArray dI;have eM:=bK.trans (bt.2.1.mono (by omega));have jK:=yh (eM.trans ((aa.setCells (F:=λj=>j=w.heap.size) rfl A 0 _).below (λj s=>by omega) eM.size));have Kl:=bt.2.2;have k:=yh d;clear gG bt i g bK eM dI f nH d;generalize bh=Z at*;go_in;go_wp2_with (first|refine wpList_load_mid rfl 101 _ rfl (w.heap.size+1) 0 rfl A _ A6 underlying101 rfl aU ?_|refine wpList_store_mid rfl 101 _ _ rfl (w.heap.size+1) 0 A.toArray rfl rfl ?h1 ?h2 bR ?_|refine wpList_store_mid rfl 101 _ _ rfl w.heap.size 0 A.toArray rfl rfl ?h3 ?h4 bR ?_);case h1=>first|simpa using Kl|(rw [pX] at Kl;simpa using Kl)
 case h2=>simpa using aU
 case h3=>
  have e:A.toArray.size=512:=by simpa using pX
  rw [e];exact Rz
 case h4=>simpa using aU
 refine bodyPost_ret (results_cell_tmp (P:=prog) rfl _ _ w.heap.size A _ _ rfl rfl pi.out underlying101 rfl aU) rfl ⟨?_,jK.out⟩;show _=Ending.returned (.tuple #[.agg (bs c).toArray,iV 0]);rw [<-k.o];rfl
theorem Bz {m:Nat} {g:Bool} (hd:B.ax w F p s S cR) (D:mZ w q p l m y g) (J:Ch w m ov) (R:¬F q) (b:Nat) (i:b<2048) (I:CM.get ov b=none) (r:y.home+b<s) (O:S.fuse≠0) (aT:S.puts.length+1<=4000000000000):
  Calls prog 114 #[pQ q,iV (b:Int)] w λe w'=>e= .returned (.tuple #[cV (S.now (y.home+b)),iV 0])/\B.ax w' F p s S (cR+1)/\aa F w w':=by
 have Pf:=je;have Mb:=hd.ok.hi;have bK:bW w (w.alloc (.cells bh 101)):=(bi _ w).alloc (bP _) _;have H:=(D.later bK).c7;have gG:=(J.later bK).look b i;rw [I] at gG;have sC:(Instr.lookup 93 (.map (some m)) (iV (b:Int)) true).run prog (w.alloc (.cells bh 101))= .ok (.tuple #[.agg bh, .bool false]) (w.alloc (.cells bh 101)):=gG;have bt:=eQ (w.alloc (.cells bh 101)) (bB 512);rw [World.size_alloc] at bt;have zI:=eJ (bB 512);have GB:=all_oneCell_toArray (cB (zs 512));have vh:=bt.2.2;have RA:(bs (zs 512)).toArray=bh:=rfl;obtain⟨f,Zn⟩:=bQ (bs (zs 512));rw [<-Zn] at bt zI GB vh RA;have C:f.length=512:=by rw [Zn,bs,List.length_map,bB]
 obtain⟨c,RB⟩:=bQ (((w.alloc (.cells bh 101)).alloc (.cells bh 101)).setCells (w.heap.size+1) 0 f);have VA:bW w c:=by rw [RB];exact bK.trans (bt.2.1.mono (by omega))
 have RC:c.there w.heap.size 0 512:=by rw [RB];exact j4 (qR w) (bt.2.1.block _ (by simp))
 have Zo:w.heap.size<c.heap.size:=by
  have:=bt.2.1.size;rw [RB];rw [World.size_alloc] at this;omega
 have a:=D.later VA;have G:=a.c0;have Gy:=λ(wx:World) (i:bW c wx)=>Gx (a.later i) b (by omega);have vi:=λ(wx:World) (i:bW c wx)=>B.zC ((hd.later VA).later i) (y.home+b) r aT O;rw [Int.natCast_add] at vi;obtain⟨M,VB,z,x,t,ib,Zp,d⟩:=ahq Gy vi a RC VA hd.lt RB (br hd.ok (y.home+b) r);clear gG bt D J bK VA hd a Gy vi RC I RB Zn;rw [<-RA] at Pf H sC vh Zp;clear RA;go_in;go_wp2_with (refine wpList_store_mid rfl 101 _ _ rfl (w.heap.size+1) 0 f.toArray rfl rfl ?h1 ?h2 GB ?_);case h1=>first|simpa using vh|(rw [C] at vh;simpa using vh)
 case h2=>simpa using zI
 have Zq:=Zp.o;subst Zq;generalize NS:((w.alloc (.cells f.toArray 101)).alloc (.cells f.toArray 101)).setCells (w.heap.size+1) 0 f=c at*;clear NS sC H vh Zp;go_region_held3 (λw'=>w'.cell? (aD q 0)=some (pQ p))
  (first|exact G|exact Uf)
  (first
   |(go_at_call 160;refine(M.o _ (ai (bi _ _))).mono ?_;rintro e U ⟨rfl,rH⟩;have mP:=rH.symm;subst mP;clear rH)
   |(go_at_call 39;refine(VB.o _ (ai (bi _ _))).mono ?_;rintro e w5 ⟨v,rfl,Q,jy,dX⟩;have Uf:=((z.o.later (ai (bi _ _))).au dX R).c0))
 obtain⟨T,N,rfl,zJ,Zr⟩:=Q;rw [d.o] at zJ⊢;obtain⟨E,K,rfl⟩:=cT zJ (by omega);have YV:=zH (some (aD E K)) N;have A6:=lF zJ;have aU:=eJ d.o;have dI:=cB (S.now (y.home+b));obtain⟨A,n⟩:=bQ (bs (S.now (y.home+b)));rw [<-n] at A6 aU dI;have pX:A.length=512:=by rw [n,bs,List.length_map,d.o]
 have bR:=all_oneCell_toArray dI;have Km:¬F w.heap.size:=λh=>by have:=ib.o _ h;omega
 have RD:=j4 x.o (dX.block _ Zo Km);have pi:=yh (World.rangeAt_setCells_same w5 w.heap.size 0 A (by rw [pX];exact RD));have eF:=aa.setCells (F:=λj=>j=w.heap.size) rfl A 0 w5;have u:=yh (jy.au eF (λk r e=>Km (e▸r)));obtain⟨T8,L⟩:=bL ((((aa.ah F t.o).trans (aa.ah (λ_=>False) (ai (bi c.heap.size c))) (λ_ h=>h.elim)).trans dX (λ_ h=> .inl h)).trans eF (λk e=> .inr (by omega)):aa F w (w5.setCells w.heap.size 0 A)) n;clear jy dX zJ Zr G Uf dI eF n;go_wp2_with (first|refine wpList_load_mid rfl 101 _ rfl E K rfl A _ A6 underlying101 rfl aU ?_|refine wpList_store_mid rfl 101 _ _ rfl w.heap.size 0 A.toArray rfl rfl ?h3 ?h4 bR ?_);case h3=>
  have e:A.toArray.size=512:=by simpa using pX
  rw [e];exact RD
 case h4=>simpa using aU
 refine bodyPost_ret (results_cell_tmp (P:=prog) rfl _ _ w.heap.size A _ _ rfl rfl pi.out underlying101 rfl aU) rfl ⟨?_,u.o,T8.o⟩;show _=Ending.returned (.tuple #[.agg (bs (S.now (y.home+b))).toArray,iV 0]);rw [<-L.o];rfl
section
structure ig (w:World) (F:Nat->Prop) (p s cR q l m:Nat) (S:DS) (G:SG):Prop where
 d:B.ax w F p s S cR
 st:mZ w q p l m G.y G.busy
 lp:cQ w l p G.L
 ch:Ch w m G.ov
 nq:¬F q
 nl:¬F l
 nm:¬F m
 ql:q≠l
 qm:q≠m
 lm:l≠m
 lk:G.L.Ok s
 bg:G.L.begun=true
 hs:G.y.home+G.y.blocks<=s
 kb:∀x∈G.ov,x.1<G.y.blocks
abbrev zK (q n:Nat) (T:TG):Array Value:= #[pQ q, .map (some n),iV T.bad, .bool T.ended]
structure mx (w:World) (F:Nat->Prop) (q l m t n:Nat) (G:SG) (T:TG):Prop where
 tx:w.heap[t]? =some (.cells (zK q n T) 98 (0,0))
 ch:Ch w n T.puts
 nt:¬F t
 nn:¬F n
 tq:t≠q
 tl:t≠l
 tm:t≠m
 tn:t≠n
 nq:n≠q
 nl:n≠l
 nm:n≠m
 kb:∀x∈T.puts,x.1<G.y.blocks
section
variable {w w':World} {F:Nat->Prop} {p s cR q l m t n:Nat} {S:DS} {G:SG} {T:TG}
theorem ig.later (h:ig w F p s cR q l m S G) (a:bW w w'):ig w' F p s cR q l m S G:=
   ⟨h.d.later a,h.st.later a,h.lp.later a,h.ch.later a,h.nq,h.nl,h.nm,h.ql,h.qm,h.lm,h.lk,h.bg,h.hs,h.kb⟩
theorem mx.later (h:mx w F q l m t n G T) (a:bW w w'):mx w' F q l m t n G T:=
   ⟨(a.block t (aw h.tx)).trans h.tx,h.ch.later a,h.nt,h.nn,h.tq,h.tl,h.tm,h.tn,h.nq,h.nl,h.nm,h.kb⟩
theorem ig.asked (h:ig w F p s cR q l m S G) (hd:B.ax w' F p s S c') (a:aa F w w'):ig w' F p s c' q l m S G:=
   ⟨hd,h.st.au a h.nq,h.lp.au a h.nl,h.ch.au a h.nm,h.nq,h.nl,h.nm,h.ql,h.qm,h.lm,h.lk,h.bg,h.hs,h.kb⟩
theorem mx.asked (h:mx w F q l m t n G T) (a:aa F w w'):mx w' F q l m t n G T:=
   ⟨(a.block t (aw h.tx) h.nt).trans h.tx,h.ch.au a h.nn,h.nt,h.nn,h.tq,h.tl,h.tm,h.tn,h.nq,h.nl,h.nm,h.kb⟩
theorem mx.c0 (h:mx w F q l m t n G T):w.cell? (aD t 0)=some (pQ q):=aL h.tx
theorem mx.c1 (h:mx w F q l m t n G T):w.cell? (aD t 1)=some (.map (some n)):=bD h.tx
theorem mx.c2 (h:mx w F q l m t n G T):w.cell? (aD t 2)=some (iV T.bad):=bH h.tx
theorem mx.c3 (h:mx w F q l m t n G T):w.cell? (aD t 3)=some (.bool T.ended):=fI h.tx
theorem ig.dead (h:ig w F p s cR q l m S G):Calls prog 58 #[pQ q] w λe w'=>e= .returned (.bool (G.L.dead S))/\bW w w':=NT h.d h.st h.lp h.lk h.bg
theorem GC (h:ig w F p s cR q l m S G) (c:mx w F q l m t n G T):
  Calls prog 136 #[pQ t] w λe w'=>e= .returned (iV (T.bX G S))/\bW w w':=by
 have a:=h.dead;have f:=c.c0;unfold TG.bX;go_in;cases hd:G.L.dead S
 .rw [hd] at a;rw [aA (by decide)];cases d:T.ended
  .rw [aA (by decide)];go_wp2_with fail;refine bE a λw1 aq=>?_;have b:=(c.later aq).c3;rw [d] at b;go_wp2;go_ret;exact⟨rfl,aq⟩
  .rw [aE rfl];go_wp2_with fail;refine bE a λw1 aq=>?_;have b:=(c.later aq).c3;rw [d] at b;go_wp2;go_ret;exact⟨rfl,aq⟩
 .rw [hd] at a;rw [aE rfl];go_wp2_with fail;refine bE a λw1 aq=>?_;go_wp2;go_ret;exact⟨rfl,aq⟩
theorem nI (h:ig w F p s cR q l m S G) (b:mx w F q l m t n G T):
  Calls prog 84 #[pQ t] w λe w'=>e= .returned (iV (T.state G S))/\bW w w':=by
 have a:=GC h b;unfold TG.state;generalize T.bX G S=E at*;go_in;by_cases k:E=0
 .have d:(E != 0)=false:=by rw [k];rfl
  rw [aA (λh=>h k)];go_wp2_with fail;refine bE a λw1 aq=>?_;have c:=(b.later aq).c2;go_wp2;go_ret;exact⟨rfl,aq⟩
 .have d:(E != 0)=true:=by rw [fT];exact k
  rw [aE k];go_wp2_with fail;refine bE a λw1 aq=>?_;go_wp2;go_ret;exact⟨rfl,aq⟩
theorem zL (h:ig w F p s cR q l m S G) (c:mx w F q l m t n G T) (b:Int):
  Calls prog 59 #[pQ t,iV b] w λe w'=>e= .returned (iV (T.refusal G S b))/\bW w w':=by
 have a:=nI h c;have f:=h.st;unfold TG.refusal;generalize T.state G S=E at*;go_in;by_cases k:E=0
 .have d:(E != 0)=false:=by rw [k];rfl
  rw [aA (λh=>h k)];by_cases g:b<0
  .rw [aE (.inl g)];go_wp2_with fail;refine bE a λw1 aq=>?_;go_wp2;go_ret;exact⟨rfl,aq⟩
  .by_cases i:(G.y.blocks:Int)<=b
   .rw [aE (.inr i)];go_wp2_with fail;refine bE a λw1 aq=>?_;have j:=(c.later aq).c0;have o:=(f.later aq).c4;go_wp2;go_ret;exact⟨rfl,aq⟩
   .rw [aA (λh=>h.elim g i)];go_wp2_with fail;refine bE a λw1 aq=>?_;have j:=(c.later aq).c0;have o:=(f.later aq).c4;go_wp2;go_ret;exact⟨rfl,aq⟩
 .have d:(E != 0)=true:=by rw [fT];exact k
  rw [aE k];go_wp2_with fail;refine bE a λw1 aq=>?_;go_wp2;go_ret;exact⟨rfl,aq⟩
end
end
theorem rI {m:Nat} (h:ig w F p s cR q l m S G) (b:Nat) (g:b<G.y.blocks) (f:S.fuse≠0) (aT:S.puts.length+1<=4000000000000):
  Calls prog 114 #[pQ q,iV (b:Int)] w λe w'=>e= .returned (.tuple #[cV (G.block S b),iV 0])/\B.ax w' F p s S (cR+1)/\aa F w w':=by
 have i:=h.hs;have Mb:=h.d.ok.hi;unfold SG.block;cases a:CM.get G.ov b with
 |none=>
  rw [Option.getD_none];exact Bz h.d h.st h.ch h.nq b (by omega) a (by omega) f aT
 |some c=>
  rw [Option.getD_some];refine(D3 h.st h.ch b a).mono ?_;rintro e w' ⟨rfl,eC⟩;exact⟨rfl,(h.d.later eC).le (by omega),aa.ah F eC⟩
theorem vj {m:Nat} (h:ig w F p s cR q l m S G) (b:Nat) (e:b<G.y.blocks):(G.block S b).length=512:=by
 have f:=h.hs;unfold SG.block;cases a:CM.get G.ov b with
 |none=>rw [Option.getD_none];exact br h.d.ok _ (by omega)
 |some c=>rw [Option.getD_some];exact(h.ch.len _ (CM.get_mem a)).2.1
theorem zM {m t:Nat} (h:ig w F p s cR q l m S G) (e:mx w F q l m t n G T) (b:Nat) (a:b<G.y.blocks):(T.jN G S b).length=512:=by
 unfold TG.jN;cases d:CM.get T.puts b with
 |none=>rw [Option.getD_none];exact vj h b a
 |some c=>rw [Option.getD_some];exact(e.ch.len _ (CM.get_mem d)).2.1
theorem VC {m t:Nat} (g:mx w F q l m t n G T) (b:Nat) {c:List Int} (d:CM.get T.puts b=some c):
  Calls prog 60 #[pQ t,iV (b:Int)] w λe w'=>e= .returned (.tuple #[cV c,iV 0])/\bW w w':=by
 have f:=g.ch;have nH:=f.len _ (CM.get_mem d);have Pf:=je;have bK:bW w (w.alloc (.cells bh 101)):=(bi _ w).alloc (bP _) _;have p:=(g.later bK).c1;have gG:=(f.later bK).look b nH.1;rw [d] at gG;have bt:=eQ (w.alloc (.cells bh 101)) nH.2.1;rw [World.size_alloc] at bt;have aU:=eJ nH.2.1;have dI:=cB c;have pX:(bs c).length=512:=by rw [bs,List.length_map,nH.2.1]
 obtain⟨A,a⟩:=bQ (bs c);have sC:(Instr.lookup 93 (.map (some n)) (iV (b:Int)) true).run prog (w.alloc (.cells bh 101))= .ok (.tuple #[.agg A.toArray, .bool true]) (w.alloc (.cells bh 101)):=by rw [a];exact gG
 have A6:(((w.alloc (.cells bh 101)).alloc (.cells bh 101)).setCells (w.heap.size+1) 0 (bs c)).rangeAt (w.heap.size+1) 0 (bs c):=λj v k=>by
  have:=bt.1.news j v k;rwa [aK] at this
 rw [<-a] at aU dI pX bt A6;have Rz:=j4 (qR w) (bt.2.1.block _ (by simp));have pi:=yh (World.rangeAt_setCells_same _ w.heap.size 0 A (by rw [pX];exact Rz));have bR:=all_oneCell_toArray dI;have eM:=bK.trans (bt.2.1.mono (by omega));have jK:=yh (eM.trans ((aa.setCells (F:=λj=>j=w.heap.size) rfl A 0 _).below (λj r=>by omega) eM.size));have Kl:=bt.2.2;have i:=yh a;clear gG bt g f bK eM dI d nH a;generalize bh=Z at*;go_in;go_wp2_with (first|refine wpList_load_mid rfl 101 _ rfl (w.heap.size+1) 0 rfl A _ A6 underlying101 rfl aU ?_|refine wpList_store_mid rfl 101 _ _ rfl (w.heap.size+1) 0 A.toArray rfl rfl ?h1 ?h2 bR ?_|refine wpList_store_mid rfl 101 _ _ rfl w.heap.size 0 A.toArray rfl rfl ?h3 ?h4 bR ?_);case h1=>first|simpa using Kl|(rw [pX] at Kl;simpa using Kl)
 case h2=>simpa using aU
 case h3=>
  have e:A.toArray.size=512:=by simpa using pX
  rw [e];exact Rz
 case h4=>simpa using aU
 refine bodyPost_ret (results_cell_tmp (P:=prog) rfl _ _ w.heap.size A _ _ rfl rfl pi.out underlying101 rfl aU) rfl ⟨?_,jK.out⟩;show _=Ending.returned (.tuple #[.agg (bs c).toArray,iV 0]);rw [<-i.o];rfl
theorem RE {m t:Nat} (h:ig w F p s cR q l m S G) (g:mx w F q l m t n G T) (b:Nat) (C:b<G.y.blocks) (D:CM.get T.puts b=none) (I:S.fuse≠0) (aT:S.puts.length+1<=4000000000000):
  Calls prog 60 #[pQ t,iV (b:Int)] w λe w'=>e= .returned (.tuple #[cV (G.block S b),iV 0])/\B.ax w' F p s S (cR+1)/\aa F w w':=by
 obtain⟨Pf,Mb,XB⟩:=jw je h.d.ok.hi h.hs;have bK:bW w (w.alloc (.cells bh 101)):=(bi _ w).alloc (bP _) _;have z:=(g.later bK).c1;have gG:=(g.ch.later bK).look b (by omega);rw [D] at gG;have sC:(Instr.lookup 93 (.map (some n)) (iV (b:Int)) true).run prog (w.alloc (.cells bh 101))= .ok (.tuple #[.agg bh, .bool false]) (w.alloc (.cells bh 101)):=gG;have bt:=eQ (w.alloc (.cells bh 101)) (bB 512);rw [World.size_alloc] at bt;have zI:=eJ (bB 512);have GB:=all_oneCell_toArray (cB (zs 512));have vh:=bt.2.2;have RA:(bs (zs 512)).toArray=bh:=rfl;obtain⟨a,Zn⟩:=bQ (bs (zs 512));rw [<-Zn] at bt zI GB vh RA;have x:a.length=512:=by rw [Zn,bs,List.length_map,bB]
 obtain⟨i,RB⟩:=bQ (((w.alloc (.cells bh 101)).alloc (.cells bh 101)).setCells (w.heap.size+1) 0 a);have VA:bW w i:=by rw [RB];exact bK.trans (bt.2.1.mono (by omega))
 have RC:i.there w.heap.size 0 512:=by rw [RB];exact j4 (qR w) (bt.2.1.block _ (by simp))
 have Zo:w.heap.size<i.heap.size:=by
  have:=bt.2.1.size;rw [RB];rw [World.size_alloc] at this;omega
 obtain⟨H,D4,v,r,ib,Zp,c⟩:=nW ((g.later VA).c0) (rI (h.later VA) b C I aT) (yh RC) (yh VA) (yh h.d.lt) (yh RB) (yh (vj h b C));clear gG bt g bK VA h RC D RB Zn;rw [<-RA] at Pf z sC vh Zp;clear RA;go_in
 go_upto_region 4 with (refine wpList_store_mid rfl 101 _ _ rfl (w.heap.size+1) 0 a.toArray rfl rfl ?h1 ?h2 GB ?_)
 case h1=>first|simpa using vh|(rw [x] at vh;simpa using vh)
 case h2=>simpa using zI
 have Zq:=Zp.o;subst Zq;generalize NS:((w.alloc (.cells a.toArray 101)).alloc (.cells a.toArray 101)).setCells (w.heap.size+1) 0 a=i at*;clear NS sC z vh Zp;obtain⟨A,f⟩:=bQ (bs (G.block S b));have aU:=eJ c.o;have dI:=cB (G.block S b);unfold cV at D4;rw [<-f] at aU dI D4;have pX:A.length=512:=by rw [f,bs,List.length_map,c.o]
 have bR:=all_oneCell_toArray dI;have E:=yh f;clear dI f;go_wp2_with fail;refine fk D4 λw5 jy dX=>?_;have Km:¬F w.heap.size:=λh=>by have:=ib.o _ h;omega
 have RD:=j4 v.o (dX.block _ Zo Km);have pi:=yh (World.rangeAt_setCells_same w5 w.heap.size 0 A (by rw [pX];exact RD));have eF:=aa.setCells (F:=λj=>j=w.heap.size) rfl A 0 w5;have u:=yh (jy.au eF (λk J e=>Km (e▸J)));have T8:=yh (((aa.ah F r.o).trans dX (λ_ h=> .inl h)).trans eF (λk e=> .inr (by omega)):aa F w (w5.setCells w.heap.size 0 A));clear jy dX H eF D4;go_wp2_with (refine wpList_store_mid rfl 101 _ _ rfl w.heap.size 0 A.toArray rfl rfl ?h3 ?h4 bR ?_);case h3=>
  have e:A.toArray.size=512:=by simpa using pX
  rw [e];exact RD
 case h4=>simpa using aU
 refine bodyPost_ret (results_cell_tmp (P:=prog) rfl _ _ w.heap.size A _ _ rfl rfl pi.out underlying101 rfl aU) rfl ⟨?_,u.o,T8.o⟩;show _=Ending.returned (.tuple #[.agg (bs (G.block S b)).toArray,iV 0]);rw [<-E.o];rfl
theorem GD {m t:Nat} (h:ig w F p s cR q l m S G) (f:mx w F q l m t n G T) (b:Nat) (g:b<G.y.blocks) (i:S.fuse≠0) (aT:S.puts.length+1<=4000000000000):
  Calls prog 60 #[pQ t,iV (b:Int)] w λe w'=>e= .returned (.tuple #[cV (T.jN G S b),iV 0])/\B.ax w' F p s S (cR+1)/\aa F w w':=by
 unfold TG.jN;cases a:CM.get T.puts b with
 |none=>
  rw [Option.getD_none];exact RE h f b g a i aT
 |some c=>
  rw [Option.getD_some];refine(VC f b a).mono ?_;rintro e w' ⟨rfl,eC⟩;exact⟨rfl,(h.d.later eC).le (by omega),aa.ah F eC⟩
section
def TG.my (T:TG) (G:SG) (S:DS) (x:Int):Int×TG:=
 if T.state G S≠0 then (T.state G S,T) else if x=6\/x=50\/x=60\/x=61 then (x,{T with bad:=x}) else (1,T)
def TG.close (T:TG):TG:={T with puts:= [],ended:=true}
def TG.abort (T:TG) (G:SG) (S:DS):Int×TG×SG:=if T.bX G S≠0 then (T.bX G S,T,G) else (0,T.close,{G with busy:=false})
section
variable {w w':World} {F:Nat->Prop} {p s cR q l m t n:Nat} {S:DS} {G:SG} {T:TG}
theorem CG (h:ig w F p s cR q l m S G) (u:mx w F q l m t n G T) (x:Int):
  Calls prog 86 #[pQ t,iV x] w λe w'=>e= .returned (iV (T.my G S x).1)/\w'.heap[t]? =some (.cells (zK q n (T.my G S x).2) 98 (0,0))/\aa (λk=>k=t) w w':=by
 have i:=nI h u;have a:=u;unfold TG.my;generalize T.state G S=E at*;go_in;by_cases k:E=0
 .have d:(E != 0)=false:=by rw [k];rfl
  rw [aA (λh=>h k)];have b:∀(w1:World),bW w w1->(w1.setCell ⟨t,2,none⟩ (.int .i64 x)).heap[t]? =some (.cells (zK q n {T with bad:=x}) 98 (0,0))/\aa (λk=>k=t) w (w1.setCell ⟨t,2,none⟩ (.int .i64 x)):=λw1 aq=>
     ⟨(heap_setCell_same _ _ 2 _ _ _ (a.later aq).tx).trans (by simp [zK]),(aa.ah (λk=>k=t) aq).trans (aJ (F:=λk=>k=t) w1 rfl 2 _) (λ_ h=> .inl h)⟩
  by_cases r:x=6
  .subst r;rw [aE (.inl rfl)];go_wp2_with fail;refine bE i λw1 aq=>?_;have j:=(a.later aq).c2;have o:=ae (a.later aq).tx 2;go_wp2;go_ret;exact⟨rfl,b w1 aq⟩
  .have A:(x == 6)=false:=(by rw [eG];exact r);by_cases c:x=50
   .subst c;rw [aE (.inr (.inl rfl))];go_wp2_with fail;refine bE i λw1 aq=>?_;have j:=(a.later aq).c2;have o:=ae (a.later aq).tx 2;go_wp2;go_ret;exact⟨rfl,b w1 aq⟩
   .have v:(x == 50)=false:=(by rw [eG];exact c);by_cases f:x=60
    .subst f;rw [aE (.inr (.inr (.inl rfl)))];go_wp2_with fail;refine bE i λw1 aq=>?_;have j:=(a.later aq).c2;have o:=ae (a.later aq).tx 2;go_wp2;go_ret;exact⟨rfl,b w1 aq⟩
    .have y:(x == 60)=false:=(by rw [eG];exact f);by_cases g:x=61
     .subst g;rw [aE (.inr (.inr (.inr rfl)))];go_wp2_with fail;refine bE i λw1 aq=>?_;have j:=(a.later aq).c2;have o:=ae (a.later aq).tx 2;go_wp2;go_ret;exact⟨rfl,b w1 aq⟩
     .have z:(x == 61)=false:=(by rw [eG];exact g);rw [aA (λh=>h.elim r (λh=>h.elim c (λh=>h.elim f g)))];go_wp2_with fail;refine bE i λw1 aq=>?_;go_wp2;go_ret;exact⟨rfl,aF (a.later aq).tx (aa.ah (λk=>k=t) aq)⟩
 .have d:(E != 0)=true:=by rw [fT];exact k
  rw [aE k];go_wp2_with fail;refine bE i λw1 aq=>?_;go_wp2;go_ret;exact⟨rfl,aF (a.later aq).tx (aa.ah (λk=>k=t) aq)⟩
theorem Mj (h:mZ w q p l m G.y G.busy) (b:mx w F q l m t n G T):
  Calls prog 139 #[pQ t] w λe w'=>e= .returned (.tuple #[])/\w'.heap[t]? =some (.cells (zK q n T.close) 98 (0,0))/\Ch w' n []/\mZ w' q p l m G.y false/\aa (λk=>k=t\/k=n\/k=q) w w':=by
 obtain⟨a,Fr,nc,xJ,ef⟩:=b.ch.qB;have o:=b.c1;have g:=(xJ.block t (aw b.tx) (λe=>b.tn e)).trans b.tx;have s1:=h.au xJ (λe=>b.nq e.symm);have r:a.cell? (aD t 3)=some (.bool T.ended):=fI g;have v:=ae g 3;have c:q≠t:=λe=>b.tq e.symm;have i:(a.setCell ⟨t,3,none⟩ (.bool true)).heap[t]? =some (.cells #[.pointer (some ⟨q,0,none⟩), .map (some n), .int .i64 T.bad, .bool true] 98 (0,0)):=(heap_setCell_same _ _ 3 _ _ _ g).trans (by simp [zK]);have d:=aJ (F:=λk=>k=t) a rfl 3 (.bool true);have s2:=s1.au d c;have s:(a.setCell ⟨t,3,none⟩ (.bool true)).cell? (aD t 0)=some (pQ q):=aL i;have u:=s2.c8;have x:=ae s2 8;have f:=aJ (F:=λk=>k=q) (a.setCell ⟨t,3,none⟩ (.bool true)) rfl 8 (.bool false);have s3:mZ ((a.setCell ⟨t,3,none⟩ (.bool true)).setCell ⟨q,8,none⟩ (.bool false)) q p l m G.y false:=(heap_setCell_same _ _ 8 _ _ _ s2).trans (by simp [Pg]);have j:(((a.setCell ⟨t,3,none⟩ (.bool true)).setCell ⟨q,8,none⟩ (.bool false)).heap[t]? =some (.cells (zK q n T.close) 98 (0,0))/\Ch ((a.setCell ⟨t,3,none⟩ (.bool true)).setCell ⟨q,8,none⟩ (.bool false)) n []/\mZ ((a.setCell ⟨t,3,none⟩ (.bool true)).setCell ⟨q,8,none⟩ (.bool false)) q p l m G.y false/\aa (λk=>k=t\/k=n\/k=q) w ((a.setCell ⟨t,3,none⟩ (.bool true)).setCell ⟨q,8,none⟩ (.bool false))):=by
  refine⟨(f.block t (aw i) (λe=>c e.symm)).trans i,(nc.au d (λe=>b.tn e.symm)).au f b.nq,s3,?_⟩;exact((xJ.mono (λ_ e=> .inr (.inl e))).trans d (λ_ e=> .inl (.inl e))).trans f (λ_ e=> .inl (.inr (.inr e)))
 go_in;go_wp2
 go_end0
 exact⟨rfl,j⟩
theorem NU (h:ig w F p s cR q l m S G) (f:mx w F q l m t n G T):
  Calls prog 90 #[pQ t] w λe w'=>e= .returned (iV (T.abort G S).1)/\w'.heap[t]? =some (.cells (zK q n (T.abort G S).2.1) 98 (0,0))/\Ch w' n (T.abort G S).2.1.puts/\mZ w' q p l m G.y (T.abort G S).2.2.busy/\aa (λk=>k=t\/k=n\/k=q) w w':=by
 have c:=GC h f;have a:=f;have b:=h.st;unfold TG.abort;generalize T.bX G S=E at*;go_in;by_cases k:E=0
 .have d:(E != 0)=false:=by rw [k];rfl
  rw [aA (λh=>h k)];go_wp2_with fail;refine bE c λw1 aq=>?_;go_wp2_with fail;refine(Mj (b.later aq) (a.later aq)).mono ?_;rintro e r ⟨rfl,g,i,j,o⟩;go_wp2;go_ret;exact⟨rfl,(aF g (aF i (aF j ((aa.ah (λk=>k=t\/k=n\/k=q) aq).trans o (λ_ h=> .inl h)))))⟩
 .have d:(E != 0)=true:=by rw [fT];exact k
  rw [aE k];go_wp2_with fail;refine bE c λw1 aq=>?_;go_wp2;go_ret;exact⟨rfl,(aF (a.later aq).tx (aF (a.later aq).ch (aF (b.later aq) (aa.ah (λk=>k=t\/k=n\/k=q) aq))))⟩
def SG.begin (G:SG) (S:DS):Int:=if G.L.dead S=true then 3 else if G.busy=true then 5 else 0
def sD (w w':World) (q p l m:Nat) (y:LY) (busy:Bool) (code:Int) (e:Ending):Prop:=
 if code≠0 then e= .returned (.tuple #[.pointer none,iV code])/\mZ w' q p l m y busy/\bW w w'
 else∃t n,e= .returned (.tuple #[pQ t,iV 0])/\w.heap.size<=n/\w.heap.size<=t/\t≠n/\w'.heap[t]? =some (.cells (zK q n ⟨[],0,false⟩) 98 (0,0))/\Ch w' n []/\mZ w' q p l m y true/\aa (λk=>k=q) w w'
theorem sE (h:ig w F p s cR q l m S G):
  Calls prog 19 #[pQ q] w λe w'=>sD w w' q p l m G.y G.busy (G.begin S) e:=by
 have b:=h.dead;have f:=h.st;unfold SG.begin;go_in;cases hd:G.L.dead S
 .rw [hd] at b;rw [aA (by decide)];cases i:G.busy
  .rw [aA (by decide)];go_wp2_with fail;refine bE b λw1 aq=>?_;have ed:=f.later aq;rw [i] at ed;have o:=ed.c8;have t:=ae ed 8;have r:=aJ (F:=λk=>k=q) w1 rfl 8 (.bool true);have s3:mZ (w1.setCell ⟨q,8,none⟩ (.bool true)) q p l m G.y true:=(heap_setCell_same _ _ 8 _ _ _ ed).trans (by simp [Pg]);have j:(w1.setCell ⟨q,8,none⟩ (.bool true)).heap.size=w1.heap.size:=(by simp [World.setCell]);have ais:=aq.size;have g:=Ch.made (w1.setCell ⟨q,8,none⟩ (.bool true));rw [j] at g;obtain⟨a,Uh⟩:=bQ ((w1.setCell ⟨q,8,none⟩ (.bool true)).alloc (.map #[] 0));rw [<-Uh] at g;have c:Below (w1.setCell ⟨q,8,none⟩ (.bool true)).heap.size (w1.setCell ⟨q,8,none⟩ (.bool true)) a:=(by rw [Uh];exact aI _ _);have d:a.heap.size=w1.heap.size+1:=(by rw [Uh,World.size_alloc,j]);have lj:=aI a (.cells (zK q w1.heap.size ⟨[],0,false⟩) 98);have n:((a.alloc (.cells (zK q w1.heap.size ⟨[],0,false⟩) 98)).heap[w1.heap.size+1]? =some (.cells (zK q w1.heap.size ⟨[],0,false⟩) 98 (0,0))/\Ch (a.alloc (.cells (zK q w1.heap.size ⟨[],0,false⟩) 98)) w1.heap.size []/\mZ (a.alloc (.cells (zK q w1.heap.size ⟨[],0,false⟩) 98)) q p l m G.y true/\aa (λk=>k=q) w (a.alloc (.cells (zK q w1.heap.size ⟨[],0,false⟩) 98))):=by
    refine⟨by rw [<-d];exact heap_alloc_new _ _,g.later lj,(s3.later c).later lj,?_⟩;exact(((aa.ah (λk=>k=q) aq).trans r (λ_ h=> .inl h)).trans (aa.ah (λ_=>False) c) (λ_ h=>h.elim)).trans (aa.ah (λ_=>False) lj) (λ_ h=>h.elim)
   have BV:= @run_makeMap prog;go_wp2;rw [<-Uh];go_ret2;unfold sD;rw [aA (λh=>h rfl)];refine⟨w1.heap.size+1,w1.heap.size,?_,ais,by omega,by omega,n⟩;first|rfl|(rw [d];rfl)
  .rw [aE rfl];go_wp2_with fail;refine bE b λw1 aq=>?_;have ed:=f.later aq;rw [i] at ed;have o:=ed.c8;go_wp2;go_ret2;unfold sD;rw [aE (by decide)];exact⟨rfl,aF ed aq⟩
 .rw [hd] at b;rw [aE rfl];go_wp2_with fail;refine bE b λw1 aq=>?_;go_wp2;go_ret2;unfold sD;rw [aE (by decide)];exact⟨rfl,aF (f.later aq) aq⟩
end
end
section
def vk (w w':World) (code:Int) (c:List Int) (e:Ending):Prop:=
 if code≠0 then e= .returned (.tuple #[.slice none 0 0,iV code])
 else∃g,e= .returned (.tuple #[.slice (some (aD g 0)) 512 512,iV 0])/\w.heap.size<=g/\jX w' 101 g c
section
variable {w w':World} {F:Nat->Prop} {p s cR q l m t n:Nat} {S:DS} {G:SG} {T:TG}
theorem iK {b:Int} (h:T.refusal G S b=0):G.L.dead S=false/\T.ended=false/\T.bad=0/\0<=b/\b<(G.y.blocks:Int):=by
 unfold TG.refusal TG.state TG.bX at h;cases hd:G.L.dead S
 .cases c:T.ended
  .rw [hd,c] at h;simp only [Bool.false_eq_true,if_false,ne_eq,not_true_eq_false] at h;split at h
   .rename_i a;exact absurd h a
   .rename_i a;split at h
    .omega
    .refine⟨rfl,rfl,?_,by omega,by omega⟩;exact Decidable.byContradiction a
  .rw [hd,c] at h;simp at h
 .rw [hd] at h;simp at h
theorem vl (h:L.dead S=false):S.fuse≠0:=λe=>by
 unfold LG.dead at h;rw [show (S.fuse == 0)=true by rw [beq_iff_eq];exact e] at h;simp at h
theorem D5 (h:ig w F p s cR q l m S G) (f:mx w F q l m t n G T) (b:Int) (aT:S.puts.length+1<=4000000000000):
  Calls prog 20 #[pQ t,iV b] w λe w'=>vk w w' (T.refusal G S b) (T.jN G S b.toNat) e/\B.ax w' F p s S (cR+1)/\aa F w w':=by
 have h1:=zL h f b;go_in;by_cases k:T.refusal G S b=0
 .obtain⟨u,C,D,H,I⟩:=iK k;obtain⟨b,rfl⟩:∃b':Nat,b=(b':Int):=⟨b.toNat,by omega⟩;have r:b<G.y.blocks:=by omega
  have a:=zM h f b r;rw [k] at h1;obtain⟨x,z,j,Pf,Ff⟩:=ey h f k je (vl u);clear h f k u C D H I;go_wp2_with fail;refine bE h1 λw1 aq=>?_;have h2:=GD (x.later aq) (z.later aq) b r Ff aT;have g:=aq;have dr:=aq.size;unfold cV at h2;obtain⟨A,i⟩:=bQ (bs (T.jN G S b));rw [<-i] at h2;clear h1 aq;go_wp2_with fail;refine fk h2 λc cC aX=>?_;have bt:=eQ c a;have aU:=eJ a;have dI:=cB (T.jN G S b);rw [<-i] at bt aU dI;have pX:A.length=512:=by rw [i,bs,List.length_map,a]
  have bR:=all_oneCell_toArray dI;have dZ:=bt.2.2;have ec:=aX.size;have o:(jX ((c.alloc (.cells bh 101)).setCells c.heap.size 0 A) 101 c.heap.size (T.jN G S b)/\B.ax ((c.alloc (.cells bh 101)).setCells c.heap.size 0 A) F p s S (cR+1)/\aa F w ((c.alloc (.cells bh 101)).setCells c.heap.size 0 A)):=⟨bt.1,cC.later bt.2.1,((aa.ah F g).trans aX (λ_ h=> .inl h)).trans (aa.ah (λ_=>False) bt.2.1) (λ_ h=>h.elim)⟩;clear h2 cC aX bt dI i;generalize bh=Z at*;go_wp2_with (refine wpList_store_mid rfl 101 _ _ rfl c.heap.size 0 A.toArray rfl rfl ?h1 ?h2 bR ?_);case h1=>first|simpa using dZ|(rw [pX] at dZ;simpa using dZ)
  case h2=>simpa using aU
  go_ret2;refine⟨?_,o.2⟩;unfold vk;rw [aA (λh=>h j)];exact⟨c.heap.size,rfl,by omega,o.1⟩
 .have d:(T.refusal G S b != 0)=true:=by rw [fT];exact k
  have v:=h.d;have j:=k;clear h f k;generalize T.refusal G S b=E at*;go_wp2_with fail;refine bE h1 λw1 aq=>?_;have g:=aq;clear h1 aq;go_wp2;go_ret2;refine⟨?_,(v.later g).le (by omega),aa.ah F g⟩;unfold vk;rw [aE j];rfl
end
end
section
abbrev rsC (r kl:Nat) (y:LY) (pv:Value) (hm:Nat) (nv:Value):Array Value:= #[pQ r,pQ kl,iV (y.log:Int),iV (y.home:Int),iV (y.blocks:Int),iV (y.nodes:Int),iV (y.data:Int),pv,iV (hm:Int),nv]
def kX (w:World) (k r kl:Nat) (y:LY) (pv:Value) (hm:Nat) (nv:Value):Prop:=w.heap[k]? =some (.cells (rsC r kl y pv hm nv) 129 (0,0))
abbrev rtC (k:Nat) (tv:Value) (T:TG):Array Value:= #[pQ k,tv, .bool T.ended,iV T.bad]
def nf (w:World) (t k:Nat) (tv:Value) (T:TG):Prop:=w.heap[t]? =some (.cells (rtC k tv T) 136 (0,0))
section
variable {w w':World} {F X:Nat->Prop} {r s k kl t hm:Nat} {S:DS} {y:LY} {L:LG} {G:SG} {T:TG} {pv nv tv:Value} {ps us:List (Nat×List Int)}
theorem kX.lt (h:kX w k r kl y pv hm nv):k<w.heap.size:=aw h
theorem kX.au (h:kX w k r kl y pv hm nv) (a:aa Z w w') (b:¬Z k):kX w' k r kl y pv hm nv:=(a.block k h.lt b).trans h
theorem kX.later (h:kX w k r kl y pv hm nv) (a:bW w w'):kX w' k r kl y pv hm nv:=(a.block k h.lt).trans h
theorem kX.c0 (h:kX w k r kl y pv hm nv):w.cell? (aD k 0)=some (pQ r):=aL h
theorem kX.c1 (h:kX w k r kl y pv hm nv):w.cell? (aD k 1)=some (pQ kl):=bD h
theorem kX.c2 (h:kX w k r kl y pv hm nv):w.cell? (aD k 2)=some (iV (y.log:Int)):=bH h
theorem kX.c3 (h:kX w k r kl y pv hm nv):w.cell? (aD k 3)=some (iV (y.home:Int)):=fI h
theorem kX.c4 (h:kX w k r kl y pv hm nv):w.cell? (aD k 4)=some (iV (y.blocks:Int)):=gz h
theorem kX.c5 (h:kX w k r kl y pv hm nv):w.cell? (aD k 5)=some (iV (y.nodes:Int)):=rU h
theorem kX.c6 (h:kX w k r kl y pv hm nv):w.cell? (aD k 6)=some (iV (y.data:Int)):=wG h
theorem kX.c7 (h:kX w k r kl y pv hm nv):w.cell? (aD k 7)=some pv:=ri h
theorem kX.c8 (h:kX w k r kl y pv hm nv):w.cell? (aD k 8)=some (iV (hm:Int)):=Dg h
theorem kX.c9 (h:kX w k r kl y pv hm nv):w.cell? (aD k 9)=some nv:=ahp h
theorem kX.fz (h:kX w k r kl y pv hm nv) (j:Nat):w.frozen? (aD k j)=false:=ae h j
theorem nf.lt (h:nf w t k tv T):t<w.heap.size:=aw h
theorem nf.au (h:nf w t k tv T) (a:aa Z w w') (b:¬Z t):nf w' t k tv T:=(a.block t h.lt b).trans h
theorem nf.later (h:nf w t k tv T) (a:bW w w'):nf w' t k tv T:=(a.block t h.lt).trans h
theorem nf.c0 (h:nf w t k tv T):w.cell? (aD t 0)=some (pQ k):=aL h
theorem nf.c1 (h:nf w t k tv T):w.cell? (aD t 1)=some tv:=bD h
theorem nf.c2 (h:nf w t k tv T):w.cell? (aD t 2)=some (.bool T.ended):=bH h
theorem nf.c3 (h:nf w t k tv T):w.cell? (aD t 3)=some (iV T.bad):=fI h
theorem nf.fz (h:nf w t k tv T) (j:Nat):w.frozen? (aD t j)=false:=ae h j
structure iz (w:World) (F X:Nat->Prop) (r s:Nat) (S:DS) (k kl:Nat) (G:SG) (pv:Value) (ps:List (Nat×List Int)) (hm:Nat) (nv:Value):Prop where
 st:kX w k r kl G.y pv hm nv
 lp:cH w kl r G.L
 pl:Pl w X pv ps
 xk:X k
 xl:X kl
 fD:∀g,X g->¬F g
 lt:∀g,X g->g<w.heap.size
 lk:G.L.Ok s
 bg:G.L.begun=true
 hs:G.y.home+G.y.blocks<=s
 lh:G.L.f+2+G.L.n<=G.y.home
 ov:G.ov=CM.bX [] (ps.drop hm)
 hm:hm<=ps.length
 kb:∀x∈ps,x.1<G.y.blocks
 un:G.L.dead S=false->∀b,b<G.y.blocks->CM.get G.ov b=none->∀c,fnd ps b=some c->S.now (G.y.home+b)=c
structure nT (w:World) (X:Nat->Prop) (k t:Nat) (G:SG) (T:TG) (tv:Value) (us:List (Nat×List Int)):Prop where
 tx:nf w t k tv T
 xt:X t
 pl:Pl w X tv us
 nd:(us.map (·.1)).Nodup
 pu:T.ended=false->T.puts=CM.bX [] us
 kb:∀x∈us,x.1<G.y.blocks
 D6:us.length<=16
theorem iz.kne (h:iz w F X r s S k kl G pv ps hm nv):k≠kl:=λe=>by
 have a:=h.st;have b:=h.lp;unfold kX at a;unfold cH at b;rw [e,b] at a;simp at a
theorem iz.au (h:iz w F X r s S k kl G pv ps hm nv) (b:aa Z w w') (a:∀g,X g->¬Z g):iz w' F X r s S k kl G pv ps hm nv:=
   ⟨h.st.au b (a _ h.xk),h.lp.au b (a _ h.xl),h.pl.au b (λg e=>a _ (h.pl.row g e)) (λg _ _ d _=>a g d),h.xk,h.xl,h.fD,λg c=>iP (h.lt g c) b.size,h.lk,h.bg,h.hs,h.lh,h.ov,h.hm,h.kb,h.un⟩
theorem iz.later (h:iz w F X r s S k kl G pv ps hm nv) (a:bW w w'):iz w' F X r s S k kl G pv ps hm nv:=h.au (aa.ah (λ_=>False) a) (λ_ _ h=>h)
theorem nT.au (h:nT w X k t G T tv us) (b:aa Z w w') (a:∀g,X g->¬Z g):nT w' X k t G T tv us:=
   ⟨h.tx.au b (a _ h.xt),h.xt,h.pl.au b (λg e=>a _ (h.pl.row g e)) (λg _ _ c _=>a g c),h.nd,h.pu,h.kb,h.D6⟩
theorem nT.later (h:nT w X k t G T tv us) (a:bW w w'):nT w' X k t G T tv us:=h.au (aa.ah (λ_=>False) a) (λ_ _ h=>h)
theorem iz.block (h:iz w F X r s S k kl G pv ps hm nv) (hd:G.L.dead S=false) {b:Nat} (f:b<G.y.blocks):(fnd ps b).getD (S.now (G.y.home+b))=G.block S b:=by
 have a:CM.get G.ov b=fnd (ps.drop hm) b:=by rw [h.ov];exact gL _ _
 have e:fnd ps b=(fnd (ps.drop hm) b).or (fnd (ps.take hm) b):=by rw [<-lX,List.take_append_drop]
 unfold SG.block;rw [a];cases d:fnd (ps.drop hm) b with
 |some c=>rw [e,d];rfl
 |none=>
  cases g:fnd ps b with
  |none=>rfl
  |some c=>exact(h.un hd b f (by rw [a,d]) c g).symm
theorem sF (hd:aB w F r s S) (h:kX w k r kl y pv hm nv) (a:cH w kl r L):
  Calls prog 127 #[pQ k] w λe w'=>e= .returned (.bool (L.dead S))/\bW w w':=by
 have b:=h.c1;go_in;go_wp2_with fail;refine(vd hd a).mono ?_;rintro e w1 ⟨rfl,aq⟩;go_wp2;go_ret;exact⟨rfl,aq⟩
theorem j5 (hd:aB w F r s S) (h:iz w F X r s S k kl G pv ps hm nv) (b:nf w t k tv T):
  Calls prog 85 #[pQ t] w λe w'=>e= .returned (iV (T.state G S))/\bW w w':=by
 have a:=sF hd h.st h.lp;have f:=b.c0;unfold TG.state TG.bX;cases yq:G.L.dead S
 .rw [yq] at a;simp only [Bool.false_eq_true,if_false];cases d:T.ended
  .simp only [Bool.false_eq_true,if_false,ne_eq,not_true_eq_false];go_in;go_wp2_with fail;refine bE a λw1 aq=>?_;have c:=(b.later aq).c2;have g:=(b.later aq).c3;rw [d] at c;go_wp2;go_ret;exact⟨rfl,aq⟩
  .simp only [if_true,ne_eq,show¬(4:Int)=0 by decide,not_false_eq_true];go_in;go_wp2_with fail;refine bE a λw1 aq=>?_;have c:=(b.later aq).c2;rw [d] at c;go_wp2;go_ret;exact⟨rfl,aq⟩
 .rw [yq] at a;simp only [if_true,ne_eq,show¬(3:Int)=0 by decide,not_false_eq_true];go_in;go_wp2_with fail;refine bE a λw1 aq=>?_;go_wp2;go_ret;exact⟨rfl,aq⟩
theorem nf.bad (h:nf w t k tv T) (x:Int):nf (w.setCell ⟨t,3,none⟩ (.int .i64 x)) t k tv {T with bad:=x}:=
   (heap_setCell_same _ _ 3 _ _ _ h).trans (by simp)
theorem nf.end_ (h:nf w t k tv T):nf (w.setCell ⟨t,2,none⟩ (.bool true)) t k tv {T with ended:=true}:=
   (heap_setCell_same _ _ 2 _ _ _ h).trans (by simp)
theorem iz.ac8 (h:iz w F X r s S k kl G pv ps hm nv) (b:nf w t k tv T) (c:aa (λj=>j=t) w w'):iz w' F X r s S k kl G pv ps hm nv:=by
 refine⟨h.st.au c (λe=>?_),h.lp.au c (λe=>?_),h.pl.other b (by decide) (by decide) c,h.xk,h.xl,h.fD,λg d=>iP (h.lt g d) c.size,h.lk,h.bg,h.hs,h.lh,h.ov,h.hm,h.kb,h.un⟩
 .have a:=h.st;unfold kX at a;unfold nf at b;rw [e,b] at a;simp at a
 .have a:=h.lp;unfold cH at a;unfold nf at b;rw [e,b] at a;simp at a
end
end
section
section
variable {w w':World} {F X:Nat->Prop} {r s k kl t hm:Nat} {S:DS} {y:LY} {L:LG} {G:SG} {T:TG} {pv nv tv:Value} {ps us:List (Nat×List Int)}
theorem Kn (hd:aB w F r s S) (h:iz w F X r s S k kl G pv ps hm nv) (m:nf w t k tv T) (x:Int):
  Calls prog 87 #[pQ t,iV x] w λe w'=>e= .returned (iV (T.my G S x).1)/\nf w' t k tv (T.my G S x).2/\aa (λj=>j=t) w w':=by
 have f:=j5 hd h m;have i:=m;obtain⟨R,a⟩:=bQ (T.my G S x);rw [<-a];unfold TG.my at a;generalize T.state G S=E at*;clear h m hd;by_cases q:E=0
 .have d:(E != 0)=false:=by rw [q];rfl
  rw [aA (λh=>h q)] at a;clear q;by_cases b:x=6\/x=50\/x=60\/x=61
  .rw [aE b] at a;have g:=a;clear a;rcases b with rfl|rfl|rfl|rfl;all_goals
    go_in;go_wp2_with fail;refine bE f λw1 aq=>?_;have wh:=i.later aq;obtain⟨n,z,l,c⟩:=cM wh.c3 (wh.fz 3) wh aq;clear f aq wh;go_wp2;go_ret;rw [g];exact⟨rfl,l.bad _,(aa.ah _ c).trans (aa.setCell (F:=λj=>j=t) _ (p:=(aD t 3)) rfl _) (λ_ h=> .inl h)⟩
  .rw [aA b] at a;have g:=a;clear a;have o:(x != 6)=true:=(by rw [fT];intro e;exact b (.inl e));have u:(x != 50)=true:=(by rw [fT];intro e;exact b (.inr (.inl e)));have v:(x != 60)=true:=(by rw [fT];intro e;exact b (.inr (.inr (.inl e))));have y:(x != 61)=true:=(by rw [fT];intro e;exact b (.inr (.inr (.inr e))));clear b;go_in;go_wp2_with fail;refine bE f λw1 aq=>?_;have c:=aq;clear f aq;go_wp2;go_ret;rw [g];exact⟨rfl,i.later c,aa.ah _ c⟩
 .have d:(E != 0)=true:=by rw [fT];exact q
  rw [aE q] at a;have g:=a;clear q a;go_in;go_wp2_with fail;refine bE f λw1 aq=>?_;have c:=aq;clear f aq;go_wp2;go_ret;rw [g];exact⟨rfl,i.later c,aa.ah _ c⟩
theorem Ko (hd:aB w F r s S) (h:iz w F X r s S k kl G pv ps hm nv) (m:nf w t k tv T):
  Calls prog 91 #[pQ t] w λe w'=>e= .returned (iV (T.abort G S).1)/\nf w' t k tv (T.abort G S).2.1/\aa (λj=>j=t) w w':=by
 have b:=sF hd h.st h.lp;have n:=m.c0;have f:=m;obtain⟨R,a⟩:=bQ (T.abort G S);rw [<-a];unfold TG.abort TG.bX at a;clear h m hd;cases yq:G.L.dead S
 .rw [yq] at b a;simp only [Bool.false_eq_true,if_false] at a;cases g:T.ended
  .simp only [g,Bool.false_eq_true,if_false,ne_eq,not_true_eq_false] at a;have d:=a;clear a;go_in;go_wp2_with fail;refine bE b λw1 aq=>?_;have wh:=f.later aq;have l:=wh.c2;have o:=wh.fz 2;rw [g] at l;have i:=wh;have c:=aq;clear b aq wh;go_wp2;go_ret;rw [d];exact⟨rfl,i.end_,(aa.ah _ c).trans (aa.setCell (F:=λj=>j=t) _ (p:=(aD t 2)) rfl _) (λ_ h=> .inl h)⟩
  .simp only [g,if_true,ne_eq,show¬(4:Int)=0 by decide,not_false_eq_true] at a;have d:=a;clear a;go_in;go_wp2_with fail;refine bE b λw1 aq=>?_;have l:=(f.later aq).c2;rw [g] at l;have c:=aq;clear b aq;go_wp2;go_ret;rw [d];exact⟨rfl,f.later c,aa.ah _ c⟩
 .rw [yq] at b a;simp only [if_true,ne_eq,show¬(3:Int)=0 by decide,not_false_eq_true] at a;have d:=a;clear a;go_in;go_wp2_with fail;refine bE b λw1 aq=>?_;have c:=aq;clear b aq;go_wp2;go_ret;rw [d];exact⟨rfl,f.later c,aa.ah _ c⟩
def XC (w:World) (nv:Value) (busy:Bool):Prop:=(nv= .pointer none/\busy=false)\/∃t,nv=pQ t/\t<w.heap.size/\w.cell? (aD t 2)=some (.bool (!busy))
def xK (w w':World) (k r kl:Nat) (y:LY) (pv:Value) (hm:Nat) (nv:Value) (code:Int) (e:Ending):Prop:=
 if code≠0 then e= .returned (.tuple #[.pointer none,iV code])/\kX w' k r kl y pv hm nv/\bW w w'
 else∃t,e= .returned (.tuple #[pQ t,iV 0])/\w.heap.size<=t/\nf w' t k (.slice none 0 0) ⟨[],0,false⟩/\kX w' k r kl y pv hm (pQ t)/\aa (λj=>j=k) w w'
theorem kX.now (h:kX w k r kl y pv hm nv) (v:Value):kX (w.setCell ⟨k,9,none⟩ v) k r kl y pv hm v:=
   (heap_setCell_same _ _ 9 _ _ _ h).trans (by simp)
theorem iu (b:bW w w') {t:Nat} (c:t<w.heap.size) (a:w.cell? (aD t j)=some v):w'.cell? (aD t j)=some v:=by
 have:=b.block t c;simp only [World.cell?] at a⊢;rw [this];exact a
theorem zN (hd:aB w F r s S) (h:kX w k r kl G.y pv hm nv) (n:cH w kl r G.L) (f:XC w nv G.busy):
  Calls prog 74 #[pQ k] w λe w'=>xK w w' k r kl G.y pv hm nv (G.begin S) e:=by
 have a:=sF hd h n;have d:=h;have mb:=h.lt;unfold xK SG.begin;clear h n hd;cases yq:G.L.dead S
 .rw [yq] at a;simp only [Bool.false_eq_true,if_false];cases m:G.busy
  .simp only [Bool.false_eq_true,if_false,ne_eq,not_true_eq_false];rw [m] at f;rcases f with ⟨rfl,_⟩|⟨t,rfl,i,c⟩
   .go_in;go_wp2_with fail;refine bE a λw1 aq=>?_;have ed:=d.later aq;have l:=ed.c9;have dr:=aq.size;have bo:=ed.later ((bi w1.heap.size w1).alloc (bP _) (.cells #[.pointer (some ⟨k,0,none⟩), .slice none 0 0, .bool false, .int .i64 0] 136));obtain⟨g,o,wR,b⟩:=cM bo.c9 (bo.fz 9) bo aq;clear a aq ed bo;go_wp2;go_ret2;refine⟨w1.heap.size,rfl,by omega,?_,wR.now _,((aa.ah _ b).trans (aa.alloc (λj=>j=k) w1 _) (λ_ h=> .inl h)).trans (aa.setCell (F:=λj=>j=k) _ (p:=(aD k 9)) rfl _) (λ_ h=> .inl h)⟩;exact(Below.heap_setCell _ _ _ _ (by show w1.heap.size≠k;omega)).trans (heap_alloc_new _ _)
   .go_in;go_wp2_with fail;refine bE a λw1 aq=>?_;have ed:=d.later aq;obtain⟨l,VD,dr,bo⟩:=cM ed.c9 (iu aq i c) aq.size (ed.later ((bi w1.heap.size w1).alloc (bP _) (.cells #[.pointer (some ⟨k,0,none⟩), .slice none 0 0, .bool false, .int .i64 0] 136)));obtain⟨g,o,wR,b⟩:=cM bo.c9 (bo.fz 9) bo aq;clear a aq ed bo c;go_wp2;go_ret2;refine⟨w1.heap.size,rfl,by omega,?_,wR.now _,((aa.ah _ b).trans (aa.alloc (λj=>j=k) w1 _) (λ_ h=> .inl h)).trans (aa.setCell (F:=λj=>j=k) _ (p:=(aD k 9)) rfl _) (λ_ h=> .inl h)⟩;exact(Below.heap_setCell _ _ _ _ (by show w1.heap.size≠k;omega)).trans (heap_alloc_new _ _)
  .simp only [if_true,ne_eq,show¬(5:Int)=0 by decide,not_false_eq_true];rw [m] at f;rcases f with ⟨_,h0⟩|⟨t,rfl,i,c⟩
   .cases h0
   .go_in;go_wp2_with fail;refine bE a λw1 aq=>?_;have ed:=d.later aq;obtain⟨l,VD,oN,b⟩:=cM ed.c9 (iu aq i c) ed aq;clear a aq ed c;go_wp2;go_ret2;exact⟨rfl,oN,b⟩
 .rw [yq] at a;simp only [if_true,ne_eq,show¬(3:Int)=0 by decide,not_false_eq_true];go_in;go_wp2_with fail;refine bE a λw1 aq=>?_;have oN:=(d.later aq);have b:=aq;clear a aq;go_wp2;go_ret2;exact⟨rfl,oN,b⟩
theorem Kp (hd:aB w F r s S) (h:iz w F X r s S k kl G pv ps hm nv) (aT:S.puts.length+1<=4000000000000):
  Calls prog 76 #[pQ k] w λe w'=>e= .returned (iV (G.L.sync S s).1)/\aB w' F r s (G.L.sync S s).2/\aa F w w':=by
 have b:=CE hd h.lp (h.fD _ h.xl) aT;have d:=h.st.c1;generalize G.L.sync S s=Z at*;go_in;go_wp2_with fail;refine oX b λw1 hd _ c=>?_;have a:=(aF hd c);go_wp2;go_ret;exact⟨rfl,a⟩
def Zs (w':World) (F X:Nat->Prop) (l:List Int) (e:Ending):Prop:=∃g c,e= .returned (.slice (some (aD g 0)) 512 c)/\(X g\/F g)/\ay w' 5 g c (bs l)
theorem zO (hd:aB w F r s S) (h:iz w F X r s S k kl G pv ps hm nv) (IR:G.L.dead S=false) (b:Nat) (D:b<G.y.blocks) (aT:S.puts.length<=4000000000000) (VE:ps.length<=4000000000000):
  Calls prog 135 #[pQ k,iV (b:Int)] w λe w'=>Zs w' F X (G.block S b) e/\bW w w':=by
 have d:=qN h.pl.pv b (by omega);have XB:=h.hs;have sb:=hd.ok.hi;obtain⟨f,kv,t,u,H,q⟩:=kQ (jF (hd.later (ai (bi w.heap.size w))) (G.y.home+b) (by omega) (by omega)) (h.block IR D) h.st.c0 h.st.c3 h.st.c7 Re;clear h hd;cases v:fnd ps b with
 |some l=>
  rw [v] at d kv;have a:=kv;clear kv f;go_in;go_wp2_with fail;refine d.mono ?_;rintro e w1 ⟨n,o⟩;subst o;rcases n with ⟨h0,_⟩|⟨E,g,c,m,rfl,C,i⟩
  .cases h0
  cases m;have z:=i;clear d i;go_wp2;go_ret;refine⟨⟨g,c,rfl, .inl C,?_⟩,bi _ _⟩;rw [<-a];exact z
 |none=>
  rw [v] at d kv;have a:=kv;clear kv;have tT:((G.y.home+b:Nat):Int)=(G.y.home:Int)+(b:Int):=by omega
  rw [tT] at f;go_in;go_wp2_with fail;refine d.mono ?_;rintro e w1 ⟨n,o⟩;subst o;rcases n with ⟨_,rfl⟩|⟨E,g,c,m,_⟩
  .have xL:IntKind.i64.wrap ((G.y.home:Int)+(b:Int))=(G.y.home:Int)+(b:Int):=(by rw [IntKind.wrap_i64];omega);rw [<-xL] at f;have x:=f;clear d f xL;go_wp2_with fail;clear q;go_region_held3 (λw'=>w'.cell? (aD k 0)=some (pQ r)/\w'.cell? (aD k 3)=some (iV (G.y.home:Int)))
    (first|exact⟨t,u⟩|exact p)
      ((go_at_call 40;refine x.mono ?_;rintro e j ⟨g,c,rfl,A,i,dw⟩;have p:j.cell? (aD k 0)=some (pQ r)/\j.cell? (aD k 3)=some (iV (G.y.home:Int)):=(by rw [dw];exact⟨t,u⟩);have fb:ay j 5 g c (bs (S.now (G.y.home+b))):=(by rw [dw];exact i);have aW:bW w1 j:=(by rw [dw];exact ai (bi _ _));clear dw i))
   go_wp2;go_ret;refine⟨⟨g,c,rfl, .inr A,?_⟩,aW⟩;rw [<-a];exact fb
  .cases m
end
end
theorem ve.meets {m:Nat} {D:DataW Value} (h:ve w m ms D) {x:Int} {ca:Array Value} {b:Lit} {y:DataW Value} {j:List MemPlace} (gF:keyOf prog 3 (iV x)=some b) (g:Ra (.agg ca)=some (y,j)) (ic:∀zd,D.atKey b zd=y):
  ∃(k:Nat) (c:List Int),x=(k:Int)/\b=kk k/\CM.get ms k=some c/\Value.agg ca=cV c:=by
 obtain⟨k,i,mb,f⟩:=h.met gF ic;obtain⟨c,d⟩:=Option.isSome_iff_exists.1 f;refine⟨k,c,i,mb,d,?_⟩;have a:=(h.MX k c d).2 (.held (.bool false));rw [<-mb,ic] at a;obtain⟨e,_⟩:=DZ g;rw [e] at a;exact tS a
theorem GE:prog.eqGuardType prog.depth 101=false:=by kernel_rfl
theorem RF (l m:List Int) (a:l.length=512) (b:m.length=512) (w:World) (x y:Operand):
    (do eqGuard .eql 101 x y (.agg (bs l).toArray) (.agg (bs m).toArray);binOp .eql 101 (.agg (bs l).toArray) (.agg (bs m).toArray)).run prog w= .ok (.bool (decide (l=m))) w:=by
 rw [Sem.run_bind,run_eqGuard_agg (P:=prog) w .eql 101 x y _ _ GE,Result.andThen_ok];show (binOp .eql 101 (.agg (bs l).toArray) (.agg (bs m).toArray)).run prog w=_;unfold binOp Op.equal Op.maxDepth;rw [Sem.run_bind,Jt 512 9998 101 l m a b w underlying101,Result.andThen_ok,Sem.run_pure]
theorem RG (l m:List Int) (a:l.length=512) (b:m.length=512) (w:World) (x y:Operand):
    (do eqGuard .neq 101 x y (.agg (bs l).toArray) (.agg (bs m).toArray);binOp .neq 101 (.agg (bs l).toArray) (.agg (bs m).toArray)).run prog w= .ok (.bool (!decide (l=m))) w:=by
 rw [Sem.run_bind,run_eqGuard_agg (P:=prog) w .neq 101 x y _ _ GE,Result.andThen_ok];show (binOp .neq 101 (.agg (bs l).toArray) (.agg (bs m).toArray)).run prog w=_;unfold binOp Op.equal Op.maxDepth;rw [Sem.run_bind,Jt 512 9998 101 l m a b w underlying101,Result.andThen_ok,Sem.run_pure]
theorem rJ {b:Array Oper} {rest:List Oper} {c:Oper} {a:Act} {Q:Exit->Act->World->Prop} (FQ:c.guard=none) (x y:Operand) (T:TypeId) (j:c.op= .binOp .eql 101 x y T)
    (A C:List Value) (l m:List Int) (d:A=bs l) (e:C=bs m) (n:a.eval x= .agg A.toArray) (o:a.eval y= .agg C.toArray) (g:l.length=512) (i:m.length=512) (v:Bool) (k:decide (l=m)=v)
    (h:wpList prog b Q rest (a.put c.dst (.bool v)) w):wpList prog b Q (c :: rest) a w:=
 wpList_plain FQ λK f=>by
  subst d e k;unfold Oper.wp execOp;simp only [j,n,o];have:=RF l m g i w x y;rw [Sem.run_bind,this];exact f _ _ h
theorem rK {b:Array Oper} {rest:List Oper} {c:Oper} {a:Act} {Q:Exit->Act->World->Prop} (FQ:c.guard=none) (x y:Operand) (T:TypeId) (j:c.op= .binOp .neq 101 x y T)
    (A C:List Value) (l m:List Int) (d:A=bs l) (e:C=bs m) (n:a.eval x= .agg A.toArray) (o:a.eval y= .agg C.toArray) (g:l.length=512) (i:m.length=512) (v:Bool) (k:(!decide (l=m))=v)
    (h:wpList prog b Q rest (a.put c.dst (.bool v)) w):wpList prog b Q (c :: rest) a w:=
 wpList_plain FQ λK f=>by
  subst d e k;unfold Oper.wp execOp;simp only [j,n,o];have:=RG l m g i w x y;rw [Sem.run_bind,this];exact f _ _ h
def TG.put (T:TG) (G:SG) (S:DS) (b:Int) (d:List Int):Int×TG:=
 if T.refusal G S b≠0 then (T.refusal G S b,T) else if d.length≠512 then (2,T) else if d=T.jN G S b.toNat then (0,T)
 else if (CM.get T.puts b.toNat).isSome=false/\T.puts.length=16 then (50,{T with bad:=50}) else (0,{T with puts:=CM.put T.puts b.toNat d})
section
def zP (w w':World) (F:Nat->Prop) (p s c q t n:Nat) (S:DS) (r:Int×TG) (e:Ending):Prop:=
 e= .returned (iV r.1)/\w'.heap[t]? =some (.cells (zK q n r.2) 98 (0,0))/\Ch w' n r.2.puts/\B.ax w' F p s S c/\aa (λk=>F k\/k=t\/k=n) w w'
theorem Kq (g:Option (List Int)) (a:∀c,g=some c->c.length=512):∃CL:List Value,acY g= .agg CL.toArray/\CL.length=512/\CL.toArray.all Value.oneCell'=true/\(prog.info? 101).map (·.size)=some CL.length:=by
 cases g with
 |none=>exact⟨bs (zs 512),rfl,by rw [bs,List.length_map,bB],all_oneCell_toArray (cB _),eJ (bB 512)⟩
 |some c=>exact⟨bs c,rfl,by rw [bs,List.length_map,a c rfl],all_oneCell_toArray (cB _),eJ (a c rfl)⟩
theorem D7 (w:World) {A:List Value} (a:A.length=512):bW w ((w.alloc (.cells bh 101)).setCells w.heap.size 0 A)/\(w.alloc (.cells bh 101)).there w.heap.size 0 A.length:=by
 have bN:(w.alloc (.cells bh 101)).heap[w.heap.size]? =some (.cells bh 101 (0,0)):=heap_alloc_new _ _;have bK:bW w (w.alloc (.cells bh 101)):=(bi _ w).alloc (bP _) _;refine⟨bK.trans ((aa.setCells (F:=λj=>j=w.heap.size) rfl A 0 _).below (λj b=>by omega) bK.size),?_⟩;rw [a];exact(cE bN cI)
section
variable {w w':World} {F:Nat->Prop} {p s cR q l m t n:Nat} {S:DS} {G:SG} {T:TG}
theorem VF (h:ig w F p s cR q l m S G) (W:mx w F q l m t n G T) (b:Int) (a:Option Addr) (x c:Nat) (d:List Int) (U:Src w a x d) (hx:x<=140737488355328) (wX:Bytes d) (aT:S.puts.length+1<=4000000000000):
  Calls prog 81 #[pQ t,iV b, .slice a x c] w λe w'=>zP w w' F p s (cR+1) q t n S (T.put G S b d) e:=by
 obtain⟨h1,HS,HT,Ui,HX⟩:=ey (zL h W b) (yh h) (yh W) U.1 (yh U);have wi:∀w1,bW w w1->∀z:Int,zP w w1 F p s (cR+1) q t n S (z,T) (.returned (iV z)):=λw1 aq z=>⟨rfl,(HT.o.later aq).tx,(HT.o.later aq).ch,(HS.o.d.later aq).le (by omega),aa.ah _ aq⟩;have XD:=yh wi;obtain⟨R,i⟩:=bQ (T.put G S b d);rw [<-i];unfold TG.put at i;go_in;go_wp2_with fail;by_cases k:T.refusal G S b=0
 .rw [aA (λh=>h k)] at i;obtain⟨r1,r2,r3,r4,r5⟩:=iK k;obtain⟨b,rfl⟩:∃b':Nat,b=(b':Int):=⟨b.toNat,by omega⟩;rw [k] at h1;rw [Int.toNat_natCast] at i;refine bE h1 λw1 aq=>?_;by_cases H:d.length=512
  .rw [aA (λh=>h H)] at i;have tU:=yh i;clear i;obtain rfl:x=512:=(by omega);obtain⟨b0,o0,rfl⟩:=cT U (by omega);have hb:b<G.y.blocks:=(by omega);obtain⟨f,Pf,Ff,hLt⟩:=cM (zM h W b hb) je (vl r1) h.d.lt;have ib:=yh hLt;have YV:=zH (some (aD b0 o0)) c;have aU:=eJ H;have dI:=cB d;obtain⟨A,hA⟩:=bQ (bs d);rw [<-hA] at aU dI;have pX:A.length=512:=(by rw [hA,bs,List.length_map,H]);have bR:=all_oneCell_toArray dI;have I:=yh hA;have HR:=yh (aF r1 (aF r2 r3));clear h W U wi k r1 r2 r3 r4 r5 dI hA hLt;have ada:w1.rangeAt b0 o0 A:=(by rw [I.o];exact lF (HX.o.later aq));have bt:=eQ w1 H;rw [<-I.o] at bt;have dZ:=bt.2.2;obtain⟨wB,VG⟩:=bQ ((w1.alloc (.cells bh 101)).setCells w1.heap.size 0 A);have Mk:bW w wB:=aq.trans (by rw [VG];exact bt.2.1.mono aq.size);have aZ:jX wB 101 w1.heap.size d:=(by rw [VG];exact bt.1);obtain⟨dr,h2,K,adb,HwB⟩:=ey aq.size (GD (HS.o.later Mk) (HT.o.later Mk) b hb Ff aT) (yh Mk) (yh aZ) (yh VG);clear h1 aq bt Mk aZ VG
   go_upto_region 7 with (first|refine wpList_load_mid rfl 101 _ rfl b0 o0 rfl A _ ada underlying101 rfl aU ?_|refine wpList_store_mid rfl 101 _ _ rfl w1.heap.size 0 A.toArray rfl rfl ?h1 ?h2 bR ?_)
   case h1=>first|simpa using dZ|(rw [pX] at dZ;simpa using dZ)
   case h2=>simpa using aU
   have aiw:=HwB.o;subst aiw;generalize NS:(w1.alloc (.cells bh 101)).setCells w1.heap.size 0 A=wB at*;clear NS ada dZ HwB YV;unfold cV at h2;obtain⟨C,hC⟩:=bQ (bs (T.jN G S b));rw [<-hC] at h2;have Z:=yh hC;clear hC;go_wp2_with fail;refine fk h2 λu cC aX=>?_;obtain⟨ec,hzB,bt,lQ,wj⟩:=ey aX.size adb.o.lt (eQ u f) (eJ f) (cB (T.jN G S b));rw [<-Z.o] at bt lQ wj;have hC5:C.length=512:=(by rw [Z.o,bs,List.length_map,f]);have GF:=all_oneCell_toArray wj;have dZ:=bt.2.2;have iQ:¬F w1.heap.size:=λhf=>by have:=ib.o _ hf;omega
   obtain⟨r,VH⟩:=bQ ((u.alloc (.cells bh 101)).setCells u.heap.size 0 C);have I4:bW u r:=(by rw [VH];exact bt.2.1);have CH:jX r 101 u.heap.size (T.jN G S b):=(by rw [VH];exact bt.1);have zQ:=(adb.o.au (aX.block _ hzB iQ)).au (I4.block _ (by omega));have raA:r.rangeAt w1.heap.size 0 A:=λj v O=>by
    have:=zQ.news j v (by rw [<-I.o];exact O);rwa [aK] at this
   have Q:r.rangeAt u.heap.size 0 C:=λj v O=>by
    have:=CH.news j v (by rw [<-Z.o];exact O);rwa [aK] at this
   have hsD:=((HS.o.later K.o).asked cC aX).later I4;have htD:=((HT.o.later K.o).asked aX).later I4;have XE:=yh (((aa.ah F K.o).trans aX (λ_ h=> .inl h)).trans (aa.ah (λ_=>False) I4) (λ_ h=>h.elim):aa F w r);obtain⟨HsD,g,N,Y,hzD⟩:=ey (yh hsD) (yh htD) (yh VH) (yh zQ) I4.size;clear h2 cC aX bt wj I4 CH zQ hsD htD VH;by_cases X:d=T.jN G S b
   .have dv:=decide_eq_true X;have Uj:=yh X;clear X;have Zt:=N.o;subst Zt;go_wp2_with (first|refine wpList_store_mid rfl 101 _ _ rfl u.heap.size 0 C.toArray rfl rfl ?h1 ?h2 GF ?_|refine wpList_load_mid rfl 101 _ rfl w1.heap.size 0 rfl A _ raA underlying101 rfl aU ?_|refine wpList_load_mid rfl 101 _ rfl u.heap.size 0 rfl C _ Q underlying101 rfl lQ ?_|refine rJ rfl _ _ _ rfl A C d (T.jN G S b) I.o Z.o rfl rfl H f true dv ?_);case h1=>first|simpa using dZ|(rw [hC5] at dZ;simpa using dZ)
    case h2=>simpa using lQ
    go_ret;rw [tU.o,aE Uj.o];exact⟨rfl,g.o.tx,g.o.ch,HsD.o.d,XE.o.mono (λ_ h=> .inl h)⟩
   .have dv:=decide_eq_false X;have Uj:=yh X;clear X;have Zt:=N.o;subst Zt
    go_upto_region 12 with (first|refine wpList_store_mid rfl 101 _ _ rfl u.heap.size 0 C.toArray rfl rfl ?h3 ?h4 GF ?_|refine wpList_load_mid rfl 101 _ rfl w1.heap.size 0 rfl A _ raA underlying101 rfl aU ?_|refine wpList_load_mid rfl 101 _ rfl u.heap.size 0 rfl C _ Q underlying101 rfl lQ ?_|refine rJ rfl _ _ _ rfl A C d (T.jN G S b) I.o Z.o rfl rfl H f false dv ?_)
    case h3=>first|simpa using dZ|(rw [hC5] at dZ;simpa using dZ)
    case h4=>simpa using lQ
    generalize NS:(u.alloc (.cells bh 101)).setCells u.heap.size 0 C=r at*;clear NS dZ N Q;have aW:b<2048:=(by have:=HS.o.hs;have:=HS.o.d.ok.hi;omega);have gG:=g.o.ch.look b aW;obtain⟨CL,hcv,adf,adg,Zu⟩:=Kq (CM.get T.puts b) (λc hc=>(g.o.ch.len _ (CM.get_mem hc)).2.1);rw [hcv] at gG;have bt:=D7 r adf;have dZ:=bt.2;have c1:=g.o.c1;obtain⟨J,P⟩:=bQ ((r.alloc (.cells bh 101)).setCells r.heap.size 0 CL);have D:bW r J:=(by rw [P];exact bt.1);obtain⟨M,Kr,XF,L,HwE⟩:=UE (HsD.o.later D) (g.o.later D) (XE.o.trans (aa.ah (λ_=>False) D) (λ_ h=>h.elim):aa F w J) (Y.o.au (D.block _ (aw Y.o)):jX J 101 w1.heap.size d) P;clear bt D P hcv
    go_upto_region 13 with (refine wpList_store_mid rfl 101 _ _ rfl r.heap.size 0 CL.toArray rfl rfl ?h5 ?h6 adg ?_)
    case h5=>first|simpa using dZ|(rw [adf] at dZ;simpa using dZ)
    case h6=>simpa using Zu
    have aiC:=HwE.o;subst aiC;generalize NS:(r.alloc (.cells bh 101)).setCells r.heap.size 0 CL=J at*;clear NS dZ HwE gG c1;have c1:=Kr.o.c1;have al2:=λty=>Kr.o.ch.length ty;by_cases Zv:(CM.get T.puts b).isSome=false/\T.puts.length=16
    .have ka:=Zv.1;have kb:((T.puts.length:Int) == 16)=true:=(by rw [beq_iff_eq];omega);have h3:=CG M.o Kr.o 50;have e3:T.my G S 50=(50,{T with bad:=50}):=by
      unfold TG.my TG.state TG.bX;rw [HR.o.1,HR.o.2.1,HR.o.2.2];simp
     rw [e3] at h3;have Cr:=yh Zv;clear Zv e3;go_wp2_with fail;refine fk h3 λw4 h4 h5=>?_;have HN:Yh (zP w w4 F p s (cR+1) q t n S (50,{T with bad:=50}) (.returned (iV 50))):=⟨rfl,h4,Kr.o.ch.au h5 (λe=>Kr.o.tn e.symm),M.o.d.au h5 (λk hk e=>Kr.o.nt (e▸hk)),(XF.o.mono (λ_ h=> .inl h)).trans h5 (λ_ e=> .inl (.inr (.inl e)))⟩;clear h3 h4 h5;go_wp2;go_ret;rw [tU.o,aA Uj.o,aE Cr.o];exact HN.o
    .have Zw:=Kr.o.ch.later (ai (bi _ _));obtain⟨wU,bC,nc,zR,NV⟩:=Zw.store b aW d H wX;have RH:(Instr.mapUpdate 93 (.map (some n)) (iV (b:Int)) (.agg A.toArray)).run prog J.drew= .ok () wU:=(by rw [I.o];exact bC);have raE:J.rangeAt w1.heap.size 0 A:=λj v O=>by
      have:=L.o.news j v (by rw [<-I.o];exact O);rwa [aK] at this
     have Ks:=(aa.ah (λk=>k=n) (ai (bi J.heap.size J))).trans zR (λ_ h=> .inl h);have HN:Yh (zP w wU F p s (cR+1) q t n S (0,{T with puts:=CM.put T.puts b d}) (.returned (iV 0))):=⟨rfl,(Ks.block t (aw Kr.o.tx) Kr.o.tn).trans Kr.o.tx,nc,M.o.d.au Ks (λk hk e=>Kr.o.nn (e▸hk)),(XF.o.mono (λ_ h=> .inl h)).trans Ks (λ_ e=> .inl (.inr (.inr e)))⟩;have Cr:=yh Zv;have HC1:=yh c1;have apd:=underlying101;have aiD:w1.heap.size≠n:=(by have:=HT.o.ch.lt;omega);have XG:=L.o.au (Ks.block _ (aw L.o) aiD);have Zx:Yh (wU.cell? (aD t 1)=some (.map (some n))/\wU.rangeAt w1.heap.size 0 A):=⟨bD ((Ks.block t (aw Kr.o.tx) Kr.o.tn).trans Kr.o.tx),λj v O=>by
      have:=XG.news j v (by rw [<-I.o];exact O);rwa [aK] at this⟩
     clear XG;cases hg:(CM.get T.puts b).isSome
     .have kb:((T.puts.length:Int) == 16)=false:=by
       rw [eG];intro e;exact Zv ⟨hg,by omega⟩
      clear Zv Zw bC nc zR Ks;go_wp2_with fail;go_region_held3 (λw'=>w'.cell? (aD t 1)=some (.map (some n))/\w'.rangeAt w1.heap.size 0 A) (first|exact⟨HC1.o,raE⟩|exact Zx.o) (fail);go_wp2;go_ret;rw [tU.o,aA Uj.o,aA Cr.o];exact HN.o
     .clear Zv Zw bC nc zR Ks;go_wp2_with fail;go_region_held3 (λw'=>w'.cell? (aD t 1)=some (.map (some n))/\w'.rangeAt w1.heap.size 0 A) (first|exact⟨HC1.o,raE⟩|exact Zx.o) (fail);go_wp2;go_ret;rw [tU.o,aA Uj.o,aA Cr.o];exact HN.o
  .rw [aE H] at i;have tU:=yh i;clear i;have dx:((x:Int) != 512)=true:=(by rw [fT];omega);clear h W U wi k r1 r2 r3 r4 r5 H;have HB:=yh aq;clear h1 aq;go_wp2;go_ret;rw [tU.o];exact XD.o _ HB.o 2
 .rw [aE k] at i;have tU:=yh i;clear i;have dk:(T.refusal G S b != 0)=true:=by rw [fT];exact k
  clear h W U wi k;generalize T.refusal G S b=E at*;refine bE h1 λw1 aq=>?_;have HB:=yh aq;clear h1 aq;go_wp2;go_ret;rw [tU.o];exact XD.o _ HB.o E
end
end
def Kt (ms ns X:CM) (left:Lit->Bool):Prop:=∀k,CM.get X k=if left (kk k)=false/\(CM.get ns k).isSome=true then CM.get ns k else CM.get ms k
theorem NW {m:Nat} {D:DataW Value} (h:Ch w m ms) (t:ve w n ns D) (q:m≠n):
  Calls prog 176 #[.map (some m), .map (some n)] w λe w'=>e= .returned (.tuple #[])/\Ch w' m (CM.bX ms ns)/\aa (λk=>k=m) w w':=by
 obtain⟨AY,Pf,H,i⟩:=cM h.lt je t h;clear h t;go_in;go_wp2_with (at_range;refine wpList_range_own _ rfl _ 93 rfl 3 101 fX underlying93 Ra n ns.length D rfl H.own ?_;intro w0 pg uD xZ;go_frame);have fo:=(bi _ w).grown uD (bP _) (λj b=>by cases b);clear uD;go_loopw [4] (λ_ wr=>∃(left:Lit->Bool) (iN:Nat) (X:CM),wr.ranges prog 3 Ra n w.heap.size ns.length D left iN/\Ch wr m X/\Kt ms ns X left/\aa (λk=>k=m) w wr/\w.heap.size+1<=wr.heap.size)
    (λ_ wr=>wr.rangeLeft n w.heap.size)
 case atStart=>
  refine⟨_,_,ms,pg,i.later fo,λk=>?_,aa.ah _ fo,by omega⟩;rw [aA];rintro ⟨h1,h2⟩;obtain⟨c,u⟩:=Option.isSome_iff_exists.1 h2;rw [(H.MX k c u).1] at h1;cases h1
 case round=>
  clear pg fo xZ;obtain⟨left,iN,X,mI,a,Pi,fP,ef⟩:=hrel;go_wp2_with (at_next;refine wpList_next_ranges _ rfl _ rfl 3 fX Ra (Value.int .i64) Value.agg (λy C gF=>by obtain⟨x,rfl,_⟩:=Maps.keyOf_int_inv underlying3 gF;exact⟨x,rfl⟩) Kg n w.heap.size ns.length _ _ _ rfl mI ?_ ?_)
  .intro _ vJ;have p:X=CM.bX ms ns:=by
    refine CM.ext a.ok (CM.qM i.ok ns) (λk=>?_);rw [Pi k,CM.Q6 i.ok k H.ok,vJ];cases E:CM.get ns k with
    |none=>simp
    |some c=>simp
   have l:=(aF (p▸a) fP);clear mI a Pi fP H i;go_wp2
   go_end0
   exact⟨rfl,l⟩
  .intro x ca C F I d ph gF x8 o ic oR bm fU bo IQ;obtain⟨k,c,rfl,rfl,XH,tk⟩:=H.meets gF o ic;have nH:=H.len _ (CM.get_mem XH);injection tk with tk;have bt:=eQ d nH.2.1;have aU:=eJ nH.2.1;have dI:=cB c;obtain⟨A,f⟩:=bQ (bs c);rw [<-f] at tk bt aU dI;have pX:A.length=512:=(by rw [f,bs,List.length_map,nH.2.1]);have bR:=all_oneCell_toArray dI;subst tk;have Ml:=a.agree (fU.block m a.lt (λe=>by injection e with e;omega));have adj:=fP.trans (G:=λj=>j=w.heap.size) ⟨fU.os,fU.tape,fU.output,fU.size,λj b dG=>fU.block j b (λe=>dG (by injection e))⟩ (λj e=> .inr (by omega));obtain⟨s,Fh⟩:=bQ ((d.alloc (.cells bh 101)).setCells d.heap.size 0 A);have dZ:=bt.2.2;have wg:bW d s:=(by rw [Fh];exact bt.2.1);have r:s.rangeAt d.heap.size 0 A:=λj v o=>by
    rw [Fh];have:=bt.1.news j v (by rw [<-f];exact o);rwa [aK] at this
   obtain⟨g,bC,nc,zR,NV⟩:=(Ml.later wg).store k nH.1 c nH.2.1 nH.2.2;have RH:(Instr.mapUpdate 93 (.map (some m)) (iV (k:Int)) (.agg A.toArray)).run prog s= .ok () g:=(by rw [f];exact bC);have adk:=(oR.kept (row:=none) ⟨wg.os,wg.tape,wg.output,wg.size,λj b _=>wg.block j b⟩ (λe=>by cases e) (λe=>by cases e)).kept (row:=some m) ⟨zR.os,zR.tape,zR.output,zR.size,λj b dG=>zR.block j b (λe=>dG (by rw [e]))⟩ (λe=>q (by injection e with e;exact e.symm)) (λe=>by injection e with e;omega);have RK:Kt ms ns (CM.put X k c) (λz=>left z && !z.sameKey (kk k)):=λj=>by
    show CM.get (CM.put X k c) j=if (left (kk j) && !(kk j).sameKey (kk k))=false/\(CM.get ns j).isSome=true then CM.get ns j else CM.get ms j;rw [CM.kr _ _ _ _ a.ok,Pi j,ln];by_cases e:j=k
    .subst e;simp [XH]
    .simp [e]
   have l:(g.ranges prog 3 Ra n w.heap.size ns.length D (λz=>left z && !z.sameKey (kk k)) ph/\Ch g m (CM.put X k c)/\Kt ms ns (CM.put X k c) (λz=>left z && !z.sameKey (kk k))/\aa (λk=>k=m) w g/\w.heap.size+1<=g.heap.size):=⟨adk,nc,RK,(adj.trans (aa.ah (λ_=>False) wg) (λ_ h=>h.elim)).trans zR (λ_ h=> .inl h),by have:=wg.size;omega⟩;have Zk:=Fh;clear gF o ic bo fU a Ml Pi RK fP adj adk bC nc zR NV wg f dI XH oR bt nH;subst Fh;generalize bh=Z at*;go_wp2_with (first|refine wpList_store_mid rfl 101 _ _ rfl d.heap.size 0 A.toArray rfl rfl ?h1 ?h2 bR ?_|refine wpList_load_mid rfl 101 _ rfl d.heap.size 0 rfl A _ r underlying101 rfl aU ?_);case h1=>first|simpa using dZ|(rw [pX] at dZ;simpa using dZ)
   go_roundw;case rel=>exact⟨_,ph,_,l⟩
   case measure=>rw [l.1.left_eq,mI.left_eq];exact bm
theorem CI {m:Nat} (h:Ch w m ms) (b:Ch w n ns) (a:m≠n):
  Calls prog 176 #[.map (some m), .map (some n)] w λe w'=>e= .returned (.tuple #[])/\Ch w' m (CM.bX ms ns)/\aa (λk=>k=m) w w':=by
 obtain⟨D,b⟩:=b;exact NW h b a
section
namespace B
section
variable {w:World} {F:Nat->Prop} {p s l cR:Nat} {S:DS} {L:LG}
theorem RL (h:ax w F p s S cR) (A:cQ w l p L) (a:L.Ok s) (m:¬F l) (cZ:S.fC) (aT:S.puts.length+3<=4000000000000):
  Calls prog 130 #[pQ l] w λe w'=>e= .returned (iV (L.trim S s).1)/\ax w' (more F w w') p s (L.trim S s).2.1 (cR+2)/\cQ w' l p (L.trim S s).2.2/\aa (λk=>F k\/k=l) w w':=by
 obtain⟨i,ib,bm,R,iQ⟩:=ey (zD h A m (by omega)) h.lt A.lt a.s a.n1;have x:=λ(M:(L.sync S s).1=0)=>a.hb (JR M);have v:=a.ep;have Q:=nA L S s;have adm:=pJ cZ L s;unfold LG.trim;generalize L.sync S s=Z at*;have D:=(λ(N:Z.1=0) b (cC:ax b F p s Z.2 cR)=>Kj cC L.f L.n L.ep L.head v (x N) (by omega) (by omega) (adm.now _) (adm.now _));by_cases c:Z.1=0
 .rw [aA (λh=>h c)];have J:(Z.1 == 0)=true:=by rw [beq_iff_eq];exact c
  have y:=(D c);by_cases C:L.tail=L.head
  .rw [aE C];have K:((L.tail:Int) == (L.head:Int))=true:=(by rw [beq_iff_eq];omega);go_in;go_wp2_with fail;refine oX i λw1 iB cm eH=>?_;have z:=cm.c6;have g:=cm.c7;go_wp2_with fail;go_quiet (fail);go_wp2;go_ret;exact⟨rfl,(λj=>aF (((iB.later (below_drewN (bi _ _) j)).more (w:=w)).le (by omega:cR<=cR+2)) (aF (cm.later (below_drewN (bi _ _) j)) ((eH.mono (λ_ h=> .inl h)).trans (aa.ah (λ_=>False) (below_drewN (bi w1.heap.size w1) j)) (λ_ h=>h.elim):aa (λk=>F k\/k=l) w (w1.drewN j)))) _⟩
  .rw [aA C];have K:((L.tail:Int) == (L.head:Int))=false:=(by rw [eG];omega);generalize P:cW Z.2 s L.f ((L.ep:Int)*4294967296+(L.head:Int))=Y at*;by_cases k:Y.1=0
   .rw [aA (λh=>h k)];have d:(Y.1 == 0)=true:=(by rw [beq_iff_eq];exact k);go_in;go_wp2_with fail;refine oX i λw1 iB cm eH=>?_;obtain⟨z,g,q,r,t,u⟩:=kQ cm.c6 cm.c7 cm.c0 cm.c1 cm.c2 cm.c5;go_wp2_with fail;go_quiet (fail);go_wp2_with fail;go_region_held3 (λw'=>w'.cell? (aD l 0)=some (pQ p)/\w'.cell? (aD l 1)=some (iV (L.f:Int))/\w'.cell? (aD l 2)=some (iV (L.n:Int))/\w'.cell? (aD l 5)=some (iV (L.ep:Int))/\w'.cell? (aD l 7)=some (iV (L.head:Int)))
     (first|exact⟨q,r,t,u,g⟩|exact⟨iR.c0,iR.c1,iR.c2,iR.c5,iR.c7⟩)
       ((go_at_call 105;refine(y _ (iB.later (below_drewN (bi _ _) (nq+1)))).mono ?_;rintro e b ⟨rfl,cC,aX⟩;have aV:=eH.trans (aa.ah (λ_=>False) (below_drewN (bi w1.heap.size w1) (nq+1))) (λ_ h=>h.elim);have gZ:=cm.later (below_drewN (bi w1.heap.size w1) (nq+1));have iR:=gZ.au aX m))
    generalize w1.drewN (nq+1)=o at*;obtain⟨kO,ec,O,H,I⟩:=ey aV.size aX.size (iR.fz 6) iR.c6 iR.c7;have dG:∀k,more F o b k->¬k=l:=λk a e=>by
     subst e;rcases a with a|a
     .exact m a
     .omega
    have ef:(b.setCell ⟨l,6,none⟩ (.int .i64 (L.head:Int))).heap.size=b.heap.size:=(by simp [World.setCell]);have E:=(aF (((cC.au (aJ (F:=λk=>k=l) b rfl 6 (iV (L.head:Int))) dG).mono (G:=more F w (b.setCell ⟨l,6,none⟩ (.int .i64 (L.head:Int)))) (λk a=>by
      rcases a with a|a
      .exact .inl a
      .exact .inr ⟨by omega,by rw [ef];exact a.2⟩) (cG (F:=F) (w:=w) ib (by rw [ef];omega)))) (aF iR.trimmed (((aV.mono (λ_ h=> .inl h):aa (λk=>F k\/k=l) w o).trans aX (λ_ h=> .inl (.inl h))).trans (aJ (F:=λk=>k=l) b rfl 6 (iV (L.head:Int))) (λ_ h=> .inl (.inr h)))))
    go_wp2;go_ret;exact⟨rfl,E⟩
   .rw [aE k];have d:(Y.1 == 0)=false:=(by rw [eG];exact k);go_in;go_wp2_with fail;refine oX i λw1 iB cm eH=>?_;obtain⟨z,g,q,r,t,u⟩:=kQ cm.c6 cm.c7 cm.c0 cm.c1 cm.c2 cm.c5;go_wp2_with fail;go_quiet (fail);go_wp2_with fail;go_region_held3 (λw'=>w'.cell? (aD l 0)=some (pQ p)/\w'.cell? (aD l 1)=some (iV (L.f:Int))/\w'.cell? (aD l 2)=some (iV (L.n:Int))/\w'.cell? (aD l 5)=some (iV (L.ep:Int))/\w'.cell? (aD l 7)=some (iV (L.head:Int)))
     (first|exact⟨q,r,t,u,g⟩|exact⟨iR.c0,iR.c1,iR.c2,iR.c5,iR.c7⟩)
       ((go_at_call 105;refine(y _ (iB.later (below_drewN (bi _ _) (nq+1)))).mono ?_;rintro e b ⟨rfl,cC,aX⟩;have aV:=eH.trans (aa.ah (λ_=>False) (below_drewN (bi w1.heap.size w1) (nq+1))) (λ_ h=>h.elim);have gZ:=cm.later (below_drewN (bi w1.heap.size w1) (nq+1));have iR:=gZ.au aX m))
    generalize w1.drewN (nq+1)=o at*;go_wp2;go_ret;exact⟨rfl,(aF (cC.from ib aV.size aX.size) (aF iR ((aV.mono (λ_ h=> .inl h):aa (λk=>F k\/k=l) w o).trans aX (λ_ h=> .inl (.inl h)))))⟩
 .rw [aE c];have J:(Z.1 == 0)=false:=by rw [eG];exact c
  go_in;go_wp2_with fail;refine oX i λw1 iB cm eH=>?_;go_wp2;go_ret;exact⟨rfl,aF ((iB.more (w:=w)).le (by omega:cR<=cR+2)) (aF cm (eH.mono (λ_ h=> .inl h):aa (λk=>F k\/k=l) w w1))⟩
end
end B
end
section
theorem j6 {S:DS} (b:S.fC) (s h:Nat):∀{ms:CM},(∀q∈ms,Bytes q.2)->(sbring S s h ms).2.fC:=λ{ms} c=>by
 induction ms generalizing S with
 |nil=>exact b
 |cons q f e=>
  rw [jt];have a:(S.wr s ((h+q.1:Nat):Int) 512 q.2).2.fC:=b.wr s _ _ (c q List.mem_cons_self);split
  .exact a
  .exact e a (λx d=>c x (List.mem_cons_of_mem _ d))
theorem D8 {s:Nat} (h:L.Ok s) (S:DS):(L.trim S s).2.2.Ok s/\(L.trim S s).2.2.begun=L.begun:=by
 unfold LG.trim;split
 .exact⟨h,rfl⟩
 .split
  .exact⟨h,rfl⟩
  .split
   .exact⟨h,rfl⟩
   .exact⟨⟨h.s,h.n1,h.n2,h.ep,h.top,bP _,Nat.le_add_right _ _,h.hi,h.hb⟩,rfl⟩
section
variable {w w':World} {F:Nat->Prop} {p s cR q l m t n:Nat} {S:DS} {G:SG} {T:TG}
theorem ig.GG {S':DS} {a:LG} {Pj:CM} (h:ig w F p s cR q l m S G) (hd:B.ax w' (more F w w') p s S' c') (bt:mZ w' q p l m G.y G.busy) (b:cQ w' l p a) (nc:Ch w' m Pj) (x8:a.Ok s) (vm:a.begun=true) (oZ:∀x∈Pj,x.1<G.y.blocks):ig w' (more F w w') p s c' q l m S' {G with L:=a,ov:=Pj}:=by
 obtain⟨c,d,f⟩:=jw h.st.lt h.lp.lt h.ch.lt;exact⟨hd,bt,b,nc,λe=>e.elim h.nq (λe=>by omega),λe=>e.elim h.nl (λe=>by omega),λe=>e.elim h.nm (λe=>by omega),h.ql,h.qm,h.lm,x8,vm,h.hs,oZ⟩
theorem CJ (h:ig w F p s cR q l m S G) (cZ:S.fC) (aT:S.puts.length+4000<=4000000000000):
  Calls prog 77 #[pQ q] w λe w'=>e= .returned (iV (G.check S s).1)/\ig w' (more F w w') p s (cR+2) q l m (G.check S s).2.1 (G.check S s).2.2/\aa (λk=>F k\/k=l\/k=m) w w':=by
 obtain⟨I,N,t,km,M⟩:=ey (B.zD h.d h.lp h.nl (by omega)) (nA G.L S s) (pJ cZ G.L s) h.ch.small (eA (G.L.sync S s).2 s G.y.home G.ov);have r:=j6 t s G.y.home (λx g=>(h.ch.len x g).2.2);have Zy:=D8 h.lk (sbring (G.L.sync S s).2 s G.y.home G.ov).2;have XB:=h.hs;have J:=λ(w1:World) (iB:B.ax w1 F p s (G.L.sync S s).2 cR) (ed:mZ w1 q p l m G.y G.busy) (Jh:Ch w1 m G.ov)=>rG iB ed Jh h.nq h.nm (λx g=>by have:=h.kb x g;omega) (by omega);have K:=λ(w1:World) (z:Nat->Prop) (iB:B.ax w1 z p s (sbring (G.L.sync S s).2 s G.y.home G.ov).2 cR) (cm:cQ w1 l p G.L) (iQ:¬z l)=>B.RL iB cm h.lk iQ r (by omega);have U:=h.st.c1;have H:=h;obtain⟨R,b⟩:=bQ (G.check S s);rw [<-b];unfold SG.check at b;generalize G.L.sync S s=Z at*;generalize sbring Z.2 s G.y.home G.ov=Y at*;generalize G.L.trim Y.2 s=X at*;obtain⟨ib,A5,Kk,xw,Q,P,VI⟩:=nW h.d.lt h.ql h.qm h.lm h.st.lt h.lp.lt h.ch.lt;go_in;go_wp2_with fail;refine oX I λw1 iB cm eH=>?_;by_cases i:Z.1=0
 .have C:(Z.1 != 0)=false:=by rw [i];rfl
  rw [aA (λh=>h i)] at b;have dr:=eH.size;have ed:=H.st.au eH H.nq;have Jh:=H.ch.au eH H.nm;have O:=J w1 iB ed Jh;have oN:=(aF ed (aF Jh (aF cm eH)));go_wp2_with fail;refine fk O λc cC aX=>?_;obtain⟨ec,bo,BZ,fy,oU⟩:=ey aX.size (oN.1.au aX H.nq) (oN.2.1.au aX H.nm) (oN.2.2.1.au aX H.nl) (oN.2.2.2.trans aX (λ_ h=> .inl h));by_cases j:Y.1=0
  .have D:(Y.1 != 0)=false:=(by rw [j];rfl);rw [aA (λh=>h j)] at b;have mN:¬more F w1 c l:=λe=>e.elim H.nl (λe=>by omega);have hnq:¬more F w1 c q:=λe=>e.elim H.nq (λe=>by omega);have wP:¬more F w1 c m:=λe=>e.elim H.nm (λe=>by omega);have T:=K c (more F w1 c) cC fy mN;have A:=bo.c1;have wR:=(aF bo (aF BZ oU));go_wp2_with fail;refine oX T λo u gZ aV=>?_;have kO:=aV.size;have fB:=wR.1.au aV (λe=>e.elim hnq A5);have AZ:=wR.2.1.au aV (λe=>e.elim wP (λe=>xw e.symm));have pY:=u.mono (λk a=>by
    rcases a with (a|a)|a
    .exact .inl a
    .exact .inr ⟨by omega,by omega⟩
    .exact .inr ⟨by omega,a.2⟩) (cG (F:=F) (w:=w) ib (by omega))
   have adn:aa (λk=>F k\/k=l\/k=m) w o:=(wR.2.2.mono (λ_ h=> .inl h)).trans aV (λk a=>by
    rcases a with (a|a)|a
    .exact .inl (.inl a)
    .exact .inr (by omega)
    .exact .inl (.inr (.inl a)))
   by_cases n:X.1=0
   .have E:(X.1 != 0)=false:=(by rw [n];rfl);rw [aA (λh=>h n)] at b;obtain⟨v,Fr,nc,xJ,ef⟩:=AZ.qB;have W:=fB.c7;have f:(ig v (more F w v) p s (cR+2) q l m X.2.1 {G with L:=X.2.2,ov:= []}/\aa (λk=>F k\/k=l\/k=m) w v):=by
     refine⟨H.GG ((pY.au xJ (λk a e=>by
      subst e;exact a.elim H.nm (λh=>by omega))).mono (λk a=>a.elim .inl (λh=> .inr ⟨h.1,by omega⟩)) (cG (F:=F) (w:=w) ib (by omega))) (fB.au xJ Kk) (gZ.au xJ xw) nc Zy.1 (Zy.2.trans H.bg) (λx g=>by cases g),adn.trans xJ (λ_ e=> .inl (.inr (.inr e)))⟩
    go_wp2;go_ret;rw [b];exact⟨rfl,f⟩
   .have E:(X.1 != 0)=true:=(by rw [fT];exact n);rw [aE n] at b;have f:(ig o (more F w o) p s (cR+2) q l m X.2.1 {G with L:=X.2.2}/\aa (λk=>F k\/k=l\/k=m) w o):=⟨H.GG pY fB gZ AZ Zy.1 (Zy.2.trans H.bg) H.kb,adn⟩;go_wp2;go_ret;rw [b];exact⟨rfl,f⟩
  .have D:(Y.1 != 0)=true:=(by rw [fT];exact j);rw [aE j] at b;have f:(ig c (more F w c) p s (cR+2) q l m Y.2 G/\aa (λk=>F k\/k=l\/k=m) w c):=⟨H.GG ((cC.from ib dr ec).le (by omega)) bo fy BZ H.lk H.bg H.kb,oU.mono (λ_ h=> .inl h)⟩;go_wp2;go_ret;rw [b];exact⟨rfl,f⟩
 .have C:(Z.1 != 0)=true:=by rw [fT];exact i
  rw [aE i] at b;have f:(ig w1 (more F w w1) p s (cR+2) q l m Z.2 G/\aa (λk=>F k\/k=l\/k=m) w w1):=⟨H.GG (iB.more.le (by omega)) (H.st.au eH H.nq) cm (H.ch.au eH H.nm) H.lk H.bg H.kb,eH.mono (λ_ h=> .inl h)⟩;go_wp2;go_ret;rw [b];exact⟨rfl,f⟩
end
end
section
namespace B
def bS (w:World) (F:Nat->Prop) (p s:Nat) (S:DS) (m c:Nat):Prop:=∃r,gD w F p s (S.DO r) m/\Rb r c
section
variable {w w':World} {F G:Nat->Prop} {p s m c:Nat} {S:DS}
theorem bS.old (h:bS w F p s S m c):Go.Proofs.YtenlkgicpllbhaaGreat.bS w F p s S m:=by obtain⟨r,h,_⟩:=h;exact⟨r,h⟩
theorem bS.le (h:bS w F p s S m c) (hd:c<=d):bS w F p s S m d:=by obtain⟨r,h,a⟩:=h;exact⟨r,h,a.le hd⟩
theorem bS.r (h:bS w F p s S m c):ax w F p s S c:=by obtain⟨r,h,a⟩:=h;exact⟨r,h.at,a⟩
theorem ax.Zz (h:ax w F p s S c):∃m,bS w F p s S m c:=by
 obtain⟨r,h,a⟩:=h;obtain⟨m,h⟩:=h.m;exact⟨m,r,h,a⟩
theorem bS.au (h:bS w F p s S m c) (k:aa G w w') (hd:∀k,F k->¬G k):bS w' F p s S m c:=by obtain⟨r,h,a⟩:=h;exact⟨r,h.au k hd,a⟩
theorem bS.later (h:bS w F p s S m c) (a:bW w w'):bS w' F p s S m c:=h.au (aa.ah (λ_=>False) a) (λ_ _ h=>h)
theorem bS.mono (h:bS w F p s S m c) (a:∀k,F k->G k) (b:∀k,G k->k<w.heap.size):bS w G p s S m c:=by obtain⟨r,h,d⟩:=h;exact⟨r,h.mono a b,d⟩
theorem ado (h:bS w F p s S m c) (k:Nat) (n:k<s) (aT:S.puts.length+1<=4000000000000) (l:S.fuse≠0):
  Calls prog 39 #[pQ p,iV (k:Int)] w λe w'=>∃g a,e= .returned (.tuple #[.slice (some (aD g 0)) 512 a,iV 0])/\w.heap.size<=g/\ay w' 5 g a (bs (S.now k))/\bS w' F p s S m (c+1)/\aa F w w':=by
 obtain⟨r,h,o⟩:=h;refine(Fv h k l n (by show S.puts.length<=_;omega)).mono ?_;rintro e w' ⟨g,a,b,d,f,i,j⟩;exact⟨g,a,b,d,f,⟨_,i,o.read⟩,j⟩
theorem ZA (h:bS w F p s S m c) (k:Nat) (b:k<s) (aT:S.puts.length+1<=4000000000000) (a:S.fuse≠0) (x:Addr) (d:Nat) (l:List Int) (n:Src w (some x) 512 l):
  Calls prog 51 #[pQ p,iV (k:Int), .slice (some x) 512 d] w λe w'=>e= .returned (iV 0)/\bS w' (more F w w') p s (S.wr s (k:Int) 512 l).2 m c/\aa F w w':=by
 obtain⟨r,h,j⟩:=h;refine(B3 h k b a (by show S.puts.length+1<=_;omega) x d l n).mono ?_;rintro e w' ⟨f,g,i⟩;refine⟨f,⟨r,?_,j⟩,i⟩;rw [oO a b];exact g
end
theorem VJ {w:World} {F:Nat->Prop} {p s m:Nat} {S:DS} (h:bS w F p s S m cR) (f n E P i c:Nat) (a:Option Addr) (x k:Nat) (l:List Int) (U:Src w a x l) (Ue:∀y,a=some y->0<x->¬F y.block) (hb:Bytes l) (hx:x<=492) (tk:a=none->k=0) (hn:1<=n) (hfn:f+2+n<=s) (aT:S.puts.length+2<=4000000000000):
  Calls prog 215 #[kw p f n,kW E P i c a x k] w λe w'=>e= .returned (iV (jM S s f n E P i c l).1)/\bS w' (more F w w') p s (jM S s f n E P i c l).2 m (cR+1)/\aa F w w':=by
 obtain⟨Mb,dh,ib⟩:=jw h.r.ok.hi h.r.ok h.r.lt;have u:¬F w.heap.size:=λb=>by have:=h.r.lt _ b;omega
 have Dp:¬F (w.heap.size+1):=λb=>by have:=h.r.lt _ b;omega
 have L:=(aF u Dp);have apf:P%n<n:=Nat.mod_lt _ hn;have C:=iI w (.cells #[.pointer (some ⟨p,0,none⟩), .int .i64 f, .int .i64 n] 144) (.cells (eI E P i c a x k) 230);have Pk:((w.alloc (.cells #[.pointer (some ⟨p,0,none⟩), .int .i64 f, .int .i64 n] 144)).alloc (.cells (eI E P i c a x k) 230)).heap[w.heap.size]? =some (.cells #[.pointer (some ⟨p,0,none⟩), .int .i64 f, .int .i64 n] 144 (0,0)):=(Below.heap_alloc _ _ _ (by simp)).trans (heap_alloc_new _ _);have Pm:((w.alloc (.cells #[.pointer (some ⟨p,0,none⟩), .int .i64 f, .int .i64 n] 144)).alloc (.cells (eI E P i c a x k) 230)).heap[w.heap.size+1]? =some (.cells (eI E P i c a x k) 230 (0,0)):=by
  have:=heap_alloc_new (w.alloc (.cells #[.pointer (some ⟨p,0,none⟩), .int .i64 f, .int .i64 n] 144)) (.cells (eI E P i c a x k) 230);rwa [World.size_alloc] at this
 have b:=λwx=>LM p f n P wx (by omega) (by omega) (by omega) (by omega) (by omega);obtain⟨j,o,I,D,M,H⟩:=kQ C Pk Pm (h.later C) (U.later C) Ue;clear h C Pk Pm U u Dp Ue;unfold jM;go_in;by_cases q:S.fuse=0
 .rw [aE q];go_wp2_with fail;refine(b _).mono ?_;rintro e w1 ⟨rfl,aq⟩;have Pk:=(aq.block _ (by simp;omega)).trans o;have N:=aL Pk;have t:=ot (D.later aq).r ((f:Int)+2+(P:Int)%(n:Int)) q;have A:=(aF ((((D.later aq).mono (G:=more F w w1) (λ_ h=> .inl h) (cG ib (j.trans (aq.mono j.size)).size))).le (by omega:cR<=cR+1)) (aa.ah F (j.trans (aq.mono j.size))));clear b aq Pk;go_wp2_with fail;refine t.mono ?_;rintro e d ⟨rfl,rfl⟩;clear t;go_wp2;go_ret;exact⟨rfl,A⟩
 .rw [aA q];have mN:=br dh (f+2+P%n) (by omega);have hlx:=M.1;have l6:=so (old:=S.now (f+2+P%n)) (body:=kE E P i c l) mN (by rw [uW];omega);obtain⟨Y,K⟩:=bQ (gg (S.now (f+2+P%n)) (kE E P i c l));rw [<-K] at l6⊢;have X:=K;clear K;have O:(f:Int)+2+(P:Int)%(n:Int)=((f+2+P%n:Nat):Int):=by omega
  rw [O] at b;clear O;go_wp2_with fail;refine(b _).mono ?_;rintro e w1 ⟨rfl,aq⟩;have Pk:=(aq.block _ (by simp;omega)).trans o;have Pm:=(aq.block _ (by simp)).trans I;have N:=aL Pk;obtain⟨t,cN,oN,aiJ,aiK⟩:=ey (ado (D.later aq) (f+2+P%n) (by omega) (by omega) q) ((j.trans (aq.mono j.size))) ((M.later aq)) Pk Pm;clear b aq Pk Pm;go_wp2_with fail;refine t.mono ?_;rintro e d ⟨g,cg,rfl,hg,T,cC,aX⟩;have Pk:=ew aiJ aX L.1;have Pm:=ew aiK aX L.2;have q0:d.cell? ⟨w.heap.size+1,0,none⟩=some (iV (E:Int)):=aL Pm;have q1:d.cell? ⟨w.heap.size+1,1,none⟩=some (iV (P:Int)):=bD Pm;have q2:d.cell? ⟨w.heap.size+1,2,none⟩=some (iV (i:Int)):=bH Pm;have q3:d.cell? ⟨w.heap.size+1,3,none⟩=some (iV (c:Int)):=fI Pm;have q4:d.cell? ⟨w.heap.size+1,4,none⟩=some (.slice a x k):=gz Pm;have Q:=QO E P i c a x k l d (oN.nB aX H) hx tk;have pi:=T.src;rw [mN] at pi;obtain⟨W,sj,gQ,adp⟩:=cM pi cC (((aa.ah F cN).trans aX (λ_ h=> .inl h))) Pk;clear t T pi cC aX Pk Pm;go_wp2_with fail;refine Q.mono ?_;rintro e w3 ⟨v,rfl,Bu,bz⟩;obtain⟨Z,c3,rfl,fB,_,_⟩:=Bu.src;have J:=Qx (some (aD g 0)) 512 cg (S.now (f+2+P%n)) Z _ c3 (kE E P i c l) w3 (W.later bz) fB (mt hb);rw [<-X,l6.1] at J;have U9:=(sj.later bz);have ma:=(gQ.trans (aa.ah (λ_=>False) bz) (λ_ h=>h.elim));have adq:=((bz.block _ (aw adp)).trans adp);clear Q Bu bz fB;go_wp2_with fail;refine J.mono ?_;rintro e w4 ⟨v4,rfl,⟨a4,c4,rfl,GH,_,_⟩,fe⟩;have N:=aL ((fe.block _ (aw adq)).trans adq);rw [l6.2] at GH⊢;obtain⟨b5,o5,rfl⟩:=cT GH (by omega);have R:=ZA (U9.later fe) (f+2+P%n) (by omega) (by omega) q (aD b5 o5) c4 Y.1 GH;have L0:=(ma.trans (aa.ah (λ_=>False) fe) (λ_ h=>h.elim));clear J fe GH;go_wp2_with fail;refine fk R λw5 jy dX=>?_;have vS:=L0.size;have qE:=dX.size;have A:=(aF ((jy.mono (G:=more F w w5) (λk z=>by
    rcases z with z|z
    .exact .inl z
    .exact .inr ⟨by omega,z.2⟩) (cG ib (by omega)))) (L0.trans dX (λ_ h=> .inl h)))
  clear R jy dX;go_wp2;go_ret;rw [(oO q (show f+2+P%n<s by omega) Y.1)] at A⊢;exact⟨rfl,A⟩
end B
end
section
namespace B
theorem bS.narrow {w:World} {F G:Nat->Prop} {p s:Nat} {S:DS} {m a:Nat} (h:bS w F p s S m a) (b:∀k,F k->(IsC w k\/k=m)->G k) (c:∀k,G k->k<w.heap.size):bS w G p s S m a:=by
 obtain⟨r,h,d⟩:=h;exact⟨r,h.narrow b c,d⟩
theorem bS.fm {w:World} {F:Nat->Prop} {p s:Nat} {S:DS} {m a:Nat} (h:bS w F p s S m a):F m:=h.old.fm
theorem bS.fc {w0 w:World} {F:Nat->Prop} {B p s:Nat} {S:DS} {m b:Nat} (h:bS w' (more (FC F B m w) w w') p s S m b) (e:B<=w.heap.size) (c:w0=w0):bS w' (FC F B m w') p s S m b:=
 h.narrow (λk a d=>⟨by
  rcases a with a|a
  .exact a.1
  .exact .inr (by omega),d,h.r.lt k a⟩) (λ_ a=>a.2.2)
structure D9 (w W:World) (F:Nat->Prop) (l p s m M n0:Nat) (L:LG) (S:DS) (d:List Int) (xs:List Nat) (cR:Nat):Prop where
 ok:(rp L S s d xs).1=0
 dk:bS W (FC F n0 m W) p s (rp L S s d xs).2 m (cR+xs.length)
 mrk:W.heap[M]? =some (.cells #[.int .i64 (L.ep:Int), .int .i64 ((L.head+xs.length:Nat):Int), .int .i64 ((xs.length:Nat):Int), .int .i64 ((cY d.length:Nat):Int)] 228 (0,0))
 bx:gT W w.heap.size l
 kp:aa F w W
 sz:n0<=W.heap.size
structure GI (w W:World) (F:Nat->Prop) (p s m n0:Nat) (L:LG) (S:DS) (d:List Int) (xs:List Nat) (cR:Nat):Prop where
 no:(rp L S s d xs).1≠0
 dk:bS W (FC F n0 m W) p s (rp L S s d xs).2 m (cR+xs.length)
 er:W.heap[w.heap.size+1]? =some (.cells #[.int .i64 (rp L S s d xs).1] 49 (0,0))
 kp:aa F w W
 sz:n0<=W.heap.size
theorem bS.carry {W W':World} {F:Nat->Prop} {p s m f c:Nat} {S:DS} (h:bS W (FC F f m W) p s S m c) (e:ko W W') (g:W'.heap[m]? =W.heap[m]?) (j:W.heap.size<=W'.heap.size):bS W' (FC F f m W') p s S m c:=by
 obtain⟨r,h,i⟩:=h;refine⟨r,(h.agree j (λk a=>?_)).mono (λk a=>⟨a.1,?_,by have:=a.2.2;omega⟩) (λ_ a=>a.2.2),i⟩
 .rcases a.2.1 with ⟨cur,t,d,b⟩|rfl
  .rw [e _ _ _ _ b,b]
  .exact g
 .rcases a.2.1 with ⟨cur,t,d,b⟩|h
  .exact .inl ⟨cur,t,d,e _ _ _ _ b⟩
  .exact .inr h
section
variable {w W W':World} {F:Nat->Prop} {l p s m M n0 cR:Nat} {L:LG} {S:DS} {d:List Int} {xs:List Nat}
theorem D9.step (h:D9 w W F l p s m M n0 L S d xs cR) (a:ko W W') (e:W'.heap[m]? =W.heap[m]?) (b:W.heap.size<=W'.heap.size) (c:aa F w W'):D9 w W' F l p s m M n0 L S d xs cR:=
   ⟨h.ok,h.dk.carry a e b,a _ _ _ _ h.mrk,⟨a _ _ _ _ h.bx.1,a _ _ _ _ h.bx.2⟩,c,jQ h.sz b⟩
theorem GI.step (h:GI w W F p s m n0 L S d xs cR) (a:ko W W') (e:W'.heap[m]? =W.heap[m]?) (b:W.heap.size<=W'.heap.size) (c:aa F w W'):GI w W' F p s m n0 L S d xs cR:=
   ⟨h.no,h.dk.carry a e b,a _ _ _ _ h.er,c,jQ h.sz b⟩
theorem E0 (h:bS W (FC F n0 m W) p s S m cR):m<W.heap.size:=h.fm.2.2
theorem D9.grown {row:Option Nat} (h:D9 w W F l p s m M n0 L S d xs cR) (c:m<n0) (f:w.heap.size<=n0) (a:W.grownBy W' row) (b:∀r,row=some r->n0<=r/\∃o:Obj,W.heap[r]? =some o/\o.isCells=false):D9 w W' F l p s m M n0 L S d xs cR:=
 h.step (i6 a (λr e=>(b r e).2)) (a.block m (E0 h.dk) (λe=>by have:=(b m e.symm).1;omega)) a.size (h.kp.grown a (λr e=>by have:=(b r e).1;omega))
theorem GI.grown {row:Option Nat} (h:GI w W F p s m n0 L S d xs cR) (c:m<n0) (f:w.heap.size<=n0) (a:W.grownBy W' row) (b:∀r,row=some r->n0<=r/\∃o:Obj,W.heap[r]? =some o/\o.isCells=false):GI w W' F p s m n0 L S d xs cR:=
 h.step (i6 a (λr e=>(b r e).2)) (a.block m (E0 h.dk) (λe=>by have:=(b m e.symm).1;omega)) a.size (h.kp.grown a (λr e=>by have:=(b r e).1;omega))
end
theorem bS.E2 {W W':World} {F:Nat->Prop} {p s m c b d:Nat} {S:DS} (h:bS W (FC F c m W) p s S m d) (a:aa (λk=>k=b) W W') (f:¬FC F c m W b):bS W' (FC F c m W') p s S m d:=
   (h.au a (λk a e=>f (e▸a))).mono (λk xq=>⟨xq.1,by
  rcases xq.2.1 with ⟨cur,t,g,i⟩|h
  .exact .inl ⟨cur,t,g,(a.block k xq.2.2 (λe=>f (e▸xq))).trans i⟩
  .exact .inr h,by have:=xq.2.2;have:=a.size;omega⟩) (λ_ a=>a.2.2)
theorem Mm {w W:World} {F:Nat->Prop} {p s m b M l D c:Nat} {S:DS} {L:LG} {e:Int} (n:∀j,F j->j<w.heap.size) (hd:bS W (FC F b m W) p s S m c) (u:cQ W l p L) (a:aa (λk=>F k\/k=l) w W) (f:W.heap[w.heap.size+1]? =some (.cells #[.int .i64 e] 49 (0,0))) (g:W.heap[D]? =some (.deferred (some [])))
    (i:b<=D) (v:l<w.heap.size) (z:w.heap.size+2<=M) (o:M<b) (VI:m<w.heap.size):
    (W.putObj D (.deferred none)).cell? ⟨w.heap.size+1,0,none⟩=some (iV e)/\ax (W.putObj D (.deferred none)) (more F w (W.putObj D (.deferred none))) p s S c/\cQ (W.putObj D (.deferred none)) l p L/\aa (λk=>F k\/k=l) w (W.putObj D (.deferred none)):=by
 have ef:(W.putObj D (.deferred none)).heap.size=W.heap.size:=by simp [World.putObj]
 have mQ:aa (λk=>k=D) W (W.putObj D (.deferred none)):=⟨rfl,rfl,rfl,by omega,λk _ x=>World.putObj_heap_other x⟩;have q:=a.size;refine⟨aL ((mQ.block _ (aw f) (by omega)).trans f),?_,u.au mQ (by omega),a.trans mQ (λ_ h=> .inr (by omega))⟩;refine(hd.r.au mQ (λk a e=>?_)).mono (λk a=>?_) (λk a=>?_)
 .rcases a.2.1 with ⟨cur,t,y,d⟩|h
  .rw [e,g] at d;cases d
  .omega
 .rcases a.1 with h|h
  .exact .inl h
  .exact .inr ⟨by omega,by have:=a.2.2;omega⟩
 .rcases a with h|h
  .have:=n k h;omega
  .exact h.2
end B
end
section
namespace B
open Go.RowKit Go.Shelf
attribute [local go_sem] Oper.semAt_some
section
variable {w:World} {F:Nat->Prop} {p s l cR:Nat} {S:DS} {L:LG}
set_option maxRecDepth 100000 in
theorem NX (h:ax w F p s S cR) (hl:cQ w l p L) (A:L.Ok s) (hF:¬F l) (b o x k:Nat) (d:List Int) (hs:Src w (some (aD b o)) x d) (Dp:¬F b) (hd:Bytes d) (hxk:x<=k) (hr:L.fN S x=0) (aT:S.puts.length+100<=4000000000000):
  Calls prog 175 #[pQ l, .slice (some (aD b o)) x k] w λe w'=>e= .returned (iV (L.append S s d).1)/\ax w' (more F w w') p s (L.append S s d).2.1 (cR+17)/\cQ w' l p (L.append S s d).2.2/\aa (λk=>F k\/k=l) w w':=by
 obtain⟨k0,k1,k2,k3,k4⟩:=jC hr;obtain⟨W0,JX⟩:=zEr ((w.alloc (.cells #[.pointer (some ⟨l,0,none⟩)] 89)).alloc (.cells #[.int .i64 0] 49));have fo:bW w W0:=by rw [<-JX];exact iI _ _ _
 have Xh:gT W0 w.heap.size l:=by
  rw [<-JX];refine⟨(Below.heap_alloc _ _ _ (by simp)).trans (heap_alloc_new _ _),?_⟩;have:=heap_alloc_new (w.alloc (.cells #[.pointer (some ⟨l,0,none⟩)] 89)) (.cells #[.int .i64 0] 49);rwa [World.size_alloc] at this
 have M:=jp (h.later fo) (hl.later fo);rw [k0] at M;obtain⟨ef,HW,HQ,HB,HL,hhi,HO⟩:=nW hl.lt (yh JX) (yh Xh) (yh fo) (yh (hl.later fo)) A.hi (yh A);have iB:((x:Int) == 0)=false:=by rw [eG];omega
 have cC:¬(8364:Int)<(x:Int):=by omega
 obtain⟨C,hC⟩:=bQ ((x+491) / 492);have XI:cY x=C:=by rw [hC];rfl
 rw [XI] at k3 k4;have YE:C<=17:=by omega
 have hd3:¬(1073741824:Int)<(L.head:Int)+(C:Int):=by omega
 obtain⟨HC,HD,E,HR,ib⟩:=UE hC h hl hr h.lt;clear hC fo Xh JX A hl h hr k0;refine(callsIn_wide (n:=6)).1 ?_;refine callsIn_of_wp_marks func175 rfl trivial ?_ rfl;simp only [ntmps175,List.size_toArray,List.length_cons,List.length_nil,Nat.reduceAdd,Nat.reduceSub,Array.replicate_succ,Array.replicate_zero,List.push_toArray,List.append_toArray,List.nil_append,List.cons_append];refine(wpIn_wide (n:=6)).2 ?_;go_wp2_with fail;rw [HW.o];refine M.mono ?_;rintro e w1 ⟨rfl,aq⟩;have iA:=gT.later HQ.o aq;have b0:w1.cell? (aD w.heap.size 0)=some (pQ l):=aL iA.1;have cm:=HL.o.later aq;have bK:=HB.o.trans (aq.mono HB.o.size);have c7:=cm.c7;have h3:=yV cm HO.o;have r:=λwx=>i5 x wx (by omega);obtain⟨cN,HQ1,Bt⟩:=jS bK iA cm;clear M aq bK iA cm;go_wp2_with fail;refine(r _).mono ?_;rintro e g ⟨rfl,dw⟩;have eB:=dw.symm;subst eB;rw [<-HC.o];clear r dw;go_wp2_with fail;refine h3.mono ?_;rintro e g ⟨rfl,aW⟩;have qC:=gT.later HQ1.o aW;have eM:=cN.o.trans (aW.mono cN.o.size);have fy:=Bt.o.later aW;have b2:g.cell? (aD w.heap.size 0)=some (pQ l):=aL qC.1;have e5:=fy.c5;have e7:=fy.c7;clear h3 aW;go_wp2_with fail;go_region_held3 (λw'=>w'.cell? (aD w.heap.size 0)=some (pQ l)/\w'.cell? (aD l 5)=some (iV (L.ep:Int))/\w'.cell? (aD l 7)=some (iV (L.head:Int))) (go_keep) (fail);have ju:w.heap.size+2<=g.heap.size:=by have:=aw qC.2;omega
 clear c7 e5 e7 b2 b0;obtain⟨I,gW⟩:∃I,(g.alloc (.cells #[.int .i64 (L.ep:Int), .int .i64 (L.head:Int), .int .i64 0, .int .i64 (C:Int)] 228)).drew=I:=⟨_,rfl⟩;rw [gW];have kO:I.heap.size=g.heap.size+1:=by rw [<-gW];show (g.alloc _).heap.size=_;simp
 have jK:bW w I:=by rw [<-gW];exact ai (eM.alloc eM.size _)
 have AZ:I.heap[g.heap.size]? =some (.cells #[.int .i64 (L.ep:Int), .int .i64 (L.head:Int), .int .i64 0, .int .i64 (C:Int)] 228 (0,0)):=by rw [<-gW];exact heap_alloc_new _ _
 have NY:gT I w.heap.size l:=qC.later (by rw [<-gW];exact ai (aI _ _));obtain⟨H,fS,HM3,HQ3⟩:=Bg kO jK AZ NY;clear gW jK AZ NY kO qC eM fy;go_wp2_with fail;refine(Nt (some (aD b o)) x k I).mono ?_;rintro e q ⟨rfl,tD⟩;go_wp2_with fail;refine(wpIn_wide (n:=6)).1 ?_;have fe:bW I q:=by rw [tD];exact iI _ _ _
 have vS:q.heap.size=g.heap.size+3:=by rw [tD];have:=H.o;simp;omega
 have GH:q.heap[g.heap.size+1]? =some (.cells #[.slice (some ⟨b,o,none⟩) x k] 36 (0,0)):=by
  rw [tD,<-H.o];exact(Below.heap_alloc _ _ _ (by simp)).trans (heap_alloc_new _ _)
 have ZB:q.heap[g.heap.size+1+1]? =some (.cells #[.int .i64 492] 3 (0,0)):=by
  rw [tD,<-H.o];have:=heap_alloc_new (I.alloc (.cells #[.slice (some ⟨b,o,none⟩) x k] 36)) (.cells #[.int .i64 492] 3);rwa [World.size_alloc] at this
 rw [H.o];rw [<-tD];clear tD;have sW:=fS.o.trans (fe.mono fS.o.size);have Ui:=hs.1;have Q:cY d.length=C:=by rw [Ui];exact XI
 obtain⟨m,hDm⟩:=HD.o.Zz;have VI:=HD.o.lt m hDm.fm;have adr:=sW.size;have hI0:D9 w q F l p s m g.heap.size q.heap.size L S d [] cR:=by
  refine⟨rfl,?_,?_,HQ3.o.later fe,aa.ah F sW,bP _⟩
  .exact(hDm.later sW).narrow (λk A hc=>⟨.inl A,hc,by have:=HD.o.lt k A;omega⟩) (λ_ A=>A.2.2)
  .rw [Q];exact(fe.block _ (aw HM3.o)).trans HM3.o
 refine wpIn_rangeFunc_ownH rfl (by omega) (gf:=235) (lb:= #[.pointer (some ⟨g.heap.size+1,0,none⟩), .pointer (some ⟨g.heap.size+1+1,0,none⟩)]) rfl trivial (enters_of func235 (by kernel_rfl) rfl)
    (Gl (6-1) (by omega) (g.heap.size+1) (g.heap.size+1+1) b o x k C k1 k2 hxk HC.o q GH ZB) Gk.t (Gk.b (by omega) (by omega)) (bi _ _) (λ_=>rfl)
    (λa W=>D9 w W F l p s m g.heap.size q.heap.size L S d (a.map Fin.val) cR)
    (λc a W=>c= .ret/\GI w W F p s m q.heap.size L S d (a.map Fin.val) cR)
  ?hI ?hIx hI0
    (λy a' _=>a'={tmps:= #[Value.pointer (some (aD l 0)), .slice (some (aD b o)) x k,pQ w.heap.size,undef, .pointer (some ⟨w.heap.size+1,0,none⟩),iV 0,iV (C:Int),pQ g.heap.size, .slice (some ⟨b,o+492*y.1,none⟩) (gk x y.1) (gk x y.1),undef,pQ l,iV 0,iV 0, .bool false,undef, .slice (some (aD b o)) x k,iV (x:Int),iV (C:Int), .bool false, .slice (some (aD b o)) x k,iV (x:Int), .bool false, .bool (decide ((8364:Int)<(x:Int))), .slice (some (aD b o)) x k,iV (x:Int), .bool (decide ((8364:Int)<(x:Int))), .bool (decide ((1073741824:Int)<(L.head:Int)+(C:Int))),pQ l,pQ l, .pointer (some (aD l 7)),iV (L.head:Int),iV (C:Int),iV ((L.head:Int)+(C:Int)), .bool (decide ((1073741824:Int)<(L.head:Int)+(C:Int))), .bool (decide ((L.n:Int)-((L.head:Int)-(L.tail:Int))<(C:Int))),iV (C:Int),pQ l,iV ((L.n:Int)-((L.head:Int)-(L.tail:Int))), .bool (decide ((L.n:Int)-((L.head:Int)-(L.tail:Int))<(C:Int))),pQ l,pQ l, .pointer (some (aD l 5)),iV (L.ep:Int),pQ l,pQ l, .pointer (some (aD l 7)),iV (L.head:Int),iV (C:Int), .agg #[iV (L.ep:Int),iV (L.head:Int),iV 0,iV (C:Int)], .slice (some (aD b o)) x k, .func (.func 235) #[] #[.pointer (some ⟨g.heap.size+1,0,none⟩), .pointer (some ⟨g.heap.size+1+1,0,none⟩)], .slice (some ⟨b,o+492*y.1,none⟩) (gk x y.1) (gk x y.1),undef,undef,undef,undef,undef,undef,undef,undef,undef,undef,undef,undef,undef,undef,undef,undef,undef,undef,undef,undef,undef],defers:= []}) ?hAx ?assign ?body ?done ?stop
 case hI=>exact λ_ _ _ _ h hg hr=>h.grown (by omega) adr hg hr
 case hIx=>exact λ_ _ _ _ _ h hg hr=>⟨h.1,h.2.grown (by omega) adr hg hr⟩
 case hAx=>exact λ_ _ _ _ _ _ h _ _=>h
 case assign=>
  intro l' a y W K hI hK;simp only [Vp]
  gi_wp2
  exact hK _ _ (KeepsFrom.refl _ _) (Gk.refl _ _ _) hI rfl
 case body=>
  rintro l' a y a' W MS ⟨rr,JY⟩ hI rfl bm;have hlen:(a.map Fin.val).length=a.length:=by simp
  have VK:(a ++ [y]).map Fin.val=a.map Fin.val ++ [y.1]:=by simp
  have hy:=y.2;have Uk:=E.o.au hI.kp hF;have jO:=hs.nB hI.kp (λz hz _=>by cases hz;exact Dp);have hpt:=Ny L S s d (a.map Fin.val);have Zb:prog.follows .mixedOrders=true:=by kernel_rfl
  have Fr:gk x y.1=min 492 (x-492*y.1):=rfl;have hyx:492*y.1<x:=by have:=HC.o;omega
  have hsP:Src W (some ⟨b,o+492*y.1,none⟩) (gk x y.1) (partOf d y.1):=by
   have:=jO.sub (492*y.1) (gk x y.1) (by omega);rwa [show (d.drop (492*y.1)).take (gk x y.1)=partOf d y.1 by unfold partOf;rw [List.take_eq_take_iff,List.length_drop,Ui];omega] at this
  have hbP:Bytes (partOf d y.1):=oy hd _;have aiM:b<w.heap.size:=hs.old _ rfl (by omega);have hFC:∀k,w.heap.size<=k->k<q.heap.size->¬FC F q.heap.size m W.drew k:=λk M r h=>by
   rcases h.1 with h|h
   .have:=ib.o k h;omega
   .omega
  have hdW:bS W.drew (FC F q.heap.size m W.drew) p s (rp L S s d (a.map Fin.val)).2 m (cR+(a.map Fin.val).length):=hI.dk.carry (λ_ _ _ _ h=>h) rfl (bP _);have GJ:=VJ hdW L.f L.n L.ep (L.head+(a.map Fin.val).length) (a.map Fin.val).length C (some ⟨b,o+492*y.1,none⟩) (gk x y.1) (gk x y.1) (partOf d y.1) (hsP.later (ai (bi _ _))) (λz hz _ h=>by
   cases hz;rcases h.1 with h|h
   .exact Dp h
   .have:q.heap.size<=b:=h;omega) hbP (by omega) (λh=>by cases h) (by have:=HO.o.n1;omega) HO.o.s (by omega)
  have fZ:=Nx (L:=L) (S:=S) (s:=s) (d:=d) y.1 hI.ok;rw [Q] at fZ;generalize jM (rp L S s d (a.map Fin.val)).2 s L.f L.n L.ep (L.head+(a.map Fin.val).length) (a.map Fin.val).length C (partOf d y.1)=Y at GJ fZ;rw [<-VK] at fZ;have b0:W.drew.cell? (aD w.heap.size 0)=some (pQ l):=aL hI.bx.1;have XJ:=hI.mrk;rw [Q] at XJ;generalize hj:(a.map Fin.val).length=j at GJ XJ;have hjC:j<17:=by omega
  have tT:((L.head+j:Nat):Int)=(L.head:Int)+(j:Int):=by omega
  rw [tT] at GJ XJ;generalize gk x y.1=cL at*;have HJ:=yh hj;clear Fr tT hj;have gV:Yh (∀W':World,W'.heap[w.heap.size]? =some (.cells #[.pointer (some ⟨l,0,none⟩)] 89 (0,0))->W'.heap[g.heap.size]? =some (.cells #[.int .i64 (L.ep:Int), .int .i64 ((L.head:Int)+(j:Int)), .int .i64 (j:Int), .int .i64 (C:Int)] 228 (0,0))->cQ W' l p L->
      (W'.cell? (aD w.heap.size 0)=some (pQ l)/\W'.cell? (aD g.heap.size 0)=some (iV (L.ep:Int))/\W'.cell? (aD g.heap.size 1)=some (iV ((L.head:Int)+(j:Int)))/\W'.cell? (aD g.heap.size 2)=some (iV (j:Int))/\W'.cell? (aD g.heap.size 3)=some (iV (C:Int))/\
     W'.cell? (aD l 0)=some (pQ p)/\W'.cell? (aD l 1)=some (iV (L.f:Int))/\W'.cell? (aD l 2)=some (iV (L.n:Int)))):=
   λW' g1 g2 g3=>⟨aL g1,aL g2,bD g2,bH g2,fI g2,g3.c0,g3.c1,g3.c2⟩
  obtain⟨X,Mn,aiN,HMk,Vk,U⟩:=Yu (gV.o W.drew hI.bx.1 XJ (Uk.later (ai (bi _ _)))) hI GJ XJ fZ hFC;clear hI GJ XJ fZ hFC hsP jO Uk hdW hpt b0
  gi_wp2_with fail
  refine nC (S:=λW'=>W'.cell? (aD w.heap.size 0)=some (pQ l)/\W'.cell? (aD g.heap.size 0)=some (iV (L.ep:Int))/\W'.cell? (aD g.heap.size 1)=some (iV ((L.head:Int)+(j:Int)))/\W'.cell? (aD g.heap.size 2)=some (iV (j:Int))/\W'.cell? (aD g.heap.size 3)=some (iV (C:Int))/\
     W'.cell? (aD l 0)=some (pQ p)/\W'.cell? (aD l 1)=some (iV (L.f:Int))/\W'.cell? (aD l 2)=some (iV (L.n:Int))) Zb (by kernel_rfl) ?_
  refine wpAnyH_take (i:=0) (v:=pQ l) rfl (by kernel_rfl) (by kernel_rfl) (by kernel_rfl) (λ_ _ _ h=>h) (Or.inl ⟨by rfl,?_⟩) X.out ?_
  .rintro Z ⟨y1,y2,y3,y4,y5,y6,y7,y8⟩;go_simp
  try simp only [Act.put,List.setIfInBounds_toArray]
  refine wpAnyH_take (i:=1) (v:=pQ l) rfl (by kernel_rfl) (by kernel_rfl) (by kernel_rfl) (λ_ _ _ h=>h) (Or.inl ⟨by rfl,?_⟩) X.out ?_
  .rintro Z ⟨y1,y2,y3,y4,y5,y6,y7,y8⟩;go_simp
  try simp only [Act.put]
  refine wpAnyH_take (i:=2) (v:=pQ l) rfl (by kernel_rfl) (by kernel_rfl) (by kernel_rfl) (λ_ _ _ h=>h) (Or.inl ⟨by rfl,?_⟩) X.out ?_
  .rintro Z ⟨y1,y2,y3,y4,y5,y6,y7,y8⟩;go_simp
  try simp only [Act.put]
  refine wpAnyH_take (i:=3) (v:=kw p L.f L.n) rfl (by kernel_rfl) (by kernel_rfl) (by kernel_rfl) (λ_ _ _ h=>h) (Or.inl ⟨by rfl,?_⟩) X.out ?_
  .rintro Z ⟨y1,y2,y3,y4,y5,y6,y7,y8⟩;go_simp
  try simp only [Act.put]
  refine wpAnyH_take (i:=4) (v:=y9 (L.ep:Int) ((L.head:Int)+(j:Int)) (j:Int) (C:Int)) rfl (by kernel_rfl) (by kernel_rfl) (by kernel_rfl) (λ_ _ _ h=>h) (Or.inl ⟨by rfl,?_⟩) X.out ?_
  .rintro Z ⟨y1,y2,y3,y4,y5,y6,y7,y8⟩;go_simp
  try simp only [Act.put]
  refine wpAnyH_take (i:=5) (v:= .slice (some ⟨b,o+492*y.1,none⟩) cL cL) rfl (by kernel_rfl) (by kernel_rfl) (by kernel_rfl) (λ_ _ _ h=>h) (Or.inl ⟨by rfl,?_⟩) X.out ?_
  .rintro Z ⟨y1,y2,y3,y4,y5,y6,y7,y8⟩;go_simp
  try simp only [Act.put]
  refine wpAnyH_take (i:=6) (v:=kW (L.ep:Int) ((L.head:Int)+(j:Int)) (j:Int) (C:Int) (some ⟨b,o+492*y.1,none⟩) cL cL) rfl (by kernel_rfl) (by kernel_rfl) (by kernel_rfl) (λ_ _ _ h=>h) (Or.inl ⟨by rfl,?_⟩) X.out ?_
  .rintro Z ⟨y1,y2,y3,y4,y5,y6,y7,y8⟩;go_simp
  try simp only [Act.put]
  refine wpAnyH_ready (rs:= [7]) (by kernel_rfl) (by simp) (AllReadyH.cons rfl (λK hK=>?_) AllReadyH.nil);go_simp;refine aiN.o.mono ?_;rintro e u ⟨rfl,cC,aX⟩;have ec:W.heap.size<=u.heap.size:=aX.size;have hd3:=cC.fc (w0:=w) (w:=W.drew) Mn.o.sz rfl;have oU:=(Mn.o.kp.trans (aa.ah (λ_=>False) (ai (bi W.heap.size W))) (λ_ h=>h.elim)).trans aX (λk A=>by
   rcases A.1 with h|h
   .exact .inl h
   .exact .inr (by omega))
  have ru:∀k R,w.heap.size<=k->k<q.heap.size->W.heap[k]? =some R->u.heap[k]? =some R:=λk R M r h3=>(aX.block k (aw h3) (U.o k M r)).trans h3;have lj:gT u w.heap.size l:=⟨ru _ _ (by omega) (by omega) Mn.o.bx.1,ru _ _ (by omega) (by omega) Mn.o.bx.2⟩;have ZC:=ru g.heap.size _ (by omega) (by omega) HMk.o;have pZ:KeepsFrom q.heap.size W u:=⟨ec,λk R M r h3=>(aX.block k (aw r) (λh=>by
   rcases h.2.1 with ⟨cur,t,fz,hc⟩|h
   .have T9:W.heap[k]? =some (.cells cur t fz):=hc;rw [r] at T9;cases T9;cases h3
   .omega)).trans r⟩
  have xJ:Gk (g.heap.size+1) (g.heap.size+1+1) W u:=⟨aX.block _ (by have:=Mn.o.sz;show _<W.heap.size;omega) (U.o _ (by omega) (by omega)),aX.block _ (by have:=Mn.o.sz;show _<W.heap.size;omega) (U.o _ (by omega) (by omega))⟩;have fy:=E.o.au oU hF;obtain⟨S2,U9,HKw,T5,adt,XK,HKc⟩:=abW (gV.o u lj.1 ZC fy) hd3 oU lj ZC pZ xJ;clear cC aX hd3 oU ru lj ZC pZ xJ fy;refine hK.out _ _ S2.out (λ_=>?_);clear hK K;try simp only [Act.put,List.setIfInBounds_toArray,List.set_cons_zero,List.set_cons_succ]
  refine wpAnyH_take (i:=8) (v:=iV Y.1) rfl (by kernel_rfl) (by kernel_rfl) (by kernel_rfl) (λ_ _ _ h=>h) (Or.inl ⟨by rfl,?_⟩) S2.out ?_
  .rintro Z ⟨y1,y2,y3,y4,y5,y6,y7,y8⟩;go_simp
  try simp only [Act.put,List.setIfInBounds_toArray]
  refine wpAnyH_done (by kernel_rfl) ?_ _;have er1:u.cell? ⟨w.heap.size+1,0,none⟩=some (iV 0):=aL T5.o.2;have ef1:=ae T5.o.2 0;by_cases kY:Y.1=0
  .have dY:(Y.1 == 0)=true:=(by rw [beq_iff_eq];exact kY);obtain⟨z1,z2,z3,z4,z5,_⟩:=S2.out;have Zc:=CallsIn.inRound l' (callsIn_wide (n:=3).2 (QS L.ep (L.head+j) j C u (by omega) (by omega)));rw [show ((L.head+j:Nat):Int)=(L.head:Int)+(j:Int) by omega] at Zc;have Ug:=yh kY;clear kY
   gi_wp2_with fail
   refine⟨trivial,?_⟩;refine Zc.mono ?_;rintro e W5 ⟨rfl,ff⟩;have xB:=(ff.block _ (aw adt.o)).trans adt.o;have m0:W5.cell? (aD g.heap.size 0)=some (iV (L.ep:Int)):=aL xB;have m1:W5.cell? (aD g.heap.size 1)=some (iV ((L.head:Int)+(j:Int))):=bD xB;have m2:W5.cell? (aD g.heap.size 2)=some (iV (j:Int)):=bH xB;have m3:W5.cell? (aD g.heap.size 3)=some (iV (C:Int)):=fI xB;have mf:=λi=>ae xB i;obtain⟨HM5,jd⟩:=bL xB ff;clear xB ff Zc z1 z2 z3 z4 z5 er1 ef1
   gi_wp2
   obtain⟨WX,O⟩:∃WX,((((W5.setCell ⟨g.heap.size,0,none⟩ (.int .i64 (L.ep:Int))).setCell ⟨g.heap.size,1,none⟩ (.int .i64 ((L.head:Int)+(j:Int)+1))).setCell ⟨g.heap.size,2,none⟩ (.int .i64 ((j:Int)+1))).setCell ⟨g.heap.size,3,none⟩ (.int .i64 (C:Int)))=WX:=⟨_,rfl⟩;rw [O];have eF:aa (λk=>k=g.heap.size) W5 WX:=by
    rw [<-O];exact(((aJ (F:=λk=>k=g.heap.size) _ rfl 0 _).trans (aJ (F:=λk=>k=g.heap.size) _ rfl 1 _) (λ_ h=> .inl h)).trans (aJ (F:=λk=>k=g.heap.size) _ rfl 2 _) (λ_ h=> .inl h)).trans (aJ (F:=λk=>k=g.heap.size) _ rfl 3 _) (λ_ h=> .inl h)
   have hkx:KeepsFrom q.heap.size W5 WX:=by
    rw [<-O];exact((((KeepsOthers.setCell _ _ _).from _).trans ((KeepsOthers.setCell _ _ _).from _)).trans ((KeepsOthers.setCell _ _ _).from _)).trans ((KeepsOthers.setCell _ _ _).from _)
   have hmX:WX.heap[g.heap.size]? =some (.cells #[.int .i64 (L.ep:Int), .int .i64 ((L.head:Int)+(j:Int)+1), .int .i64 ((j:Int)+1), .int .i64 (C:Int)] 228 (0,0)):=by
    rw [<-O];exact(heap_setCell_same _ _ 3 _ _ _ (heap_setCell_same _ _ 2 _ _ _ (heap_setCell_same _ _ 1 _ _ _ (heap_setCell_same _ _ 0 _ _ _ HM5.o)))).trans (by simp)
   have ff:=jd.o;have Ze:=Mn.o.sz;have hc5:=el ff;have jy:=U9.o.carry hc5 (ff.block _ (E0 U9.o)) ff.size;have kv:∀k R,¬k=g.heap.size->u.heap[k]? =some R->WX.heap[k]? =some R:=λk R M r=>(eF.block k (by have:=aw r;have:=ff.size;omega) M).trans ((ff.block k (aw r)).trans r);have qE:=ff.size;have hzX:=eF.size;have hIX:D9 w WX F l p s m g.heap.size q.heap.size L S d ((a ++ [y]).map Fin.val) cR:=by
    have J:=Vk.o;have IU:cR+j+1<=cR+((a ++ [y]).map Fin.val).length:=(by rw [VK,dT,List.length_singleton,HJ.o];omega);refine⟨by rw [J];exact Ug.o,by rw [J];exact(jy.E2 eF (EY ib.o (by omega) (by omega))).le IU,?_,⟨kv _ _ (by omega) T5.o.1,kv _ _ (by omega) T5.o.2⟩,(HKw.o.trans (aa.ah (λ_=>False) ff) (λ_ h=>h.elim)).trans eF (λ_ h=> .inr (by omega)),by omega⟩;rw [hmX,VK,dT,List.length_singleton,HJ.o,Q];rw [show ((L.head+(j+1):Nat):Int)=(L.head:Int)+(j:Int)+1 by omega,show ((j+1:Nat):Int)=(j:Int)+1 by omega]
   exact⟨(XK.o.trans ⟨qE,λk R _ r _=>(ff.block k (aw r)).trans r⟩).trans hkx,HKc.o.t ⟨(eF.block _ (by omega) (by omega)).trans (ff.block _ (by omega)),(eF.block _ (by omega) (by omega)).trans (ff.block _ (by omega))⟩,hIX⟩
  .have dY:(Y.1 == 0)=false:=(by rw [eG];exact kY);have Ug:=yh kY;clear kY
   gi_wp2
   have eF:aa (λk=>k=w.heap.size+1) u (u.setCell ⟨w.heap.size+1,0,none⟩ (.int .i64 Y.1)):=aJ (F:=λk=>k=w.heap.size+1) u rfl 0 _;have P:GI w (u.setCell ⟨w.heap.size+1,0,none⟩ (.int .i64 Y.1)) F p s m q.heap.size L S d ((a ++ [y]).map Fin.val) cR:=by
    have J:=Vk.o;have IU:cR+j+1<=cR+((a ++ [y]).map Fin.val).length:=(by rw [VK,dT,List.length_singleton,HJ.o];omega);refine⟨by rw [J];exact Ug.o,by rw [J];exact(U9.o.E2 eF (EY ib.o (by omega) (by omega))).le IU,by rw [J];exact(heap_setCell_same _ _ 0 _ _ _ T5.o.2).trans (by simp),HKw.o.trans eF (λ_ h=> .inr (by omega)),by have:=Mn.o.sz;have:=XK.o.size;have:=eF.size;omega⟩
   exact⟨XK.o.trans ((KeepsOthers.setCell _ _ _).from _),rfl,P⟩
 case done=>
  intro D xs W hD o7 hI Q0;have VK:xs.map Fin.val=List.range C:=o7;rw [VK] at hI;have Uk:=E.o.au hI.kp hF;have c0:W.cell? (aD w.heap.size 0)=some (pQ l):=aL hI.bx.1;have c1:W.cell? ⟨w.heap.size+1,0,none⟩=some (iV 0):=aL hI.bx.2;obtain⟨g1,c7,g7,Mn,HlW⟩:=ey (ae hI.bx.2 0) Uk.c7 (Uk.fz 7) (yh hI) (yh Uk);clear hI Uk VK o7;have Km:¬FC F q.heap.size m W l:=λh=>by
   rcases h.1 with h|h
   .exact hF h
   .omega
  have eH:aa (λk=>k=l) W (W.setCell ⟨l,7,none⟩ (.int .i64 ((L.head:Int)+(C:Int)))):=aJ (F:=λk=>k=l) W rfl 7 _;have aX:aa (λk=>k=w.heap.size+1) (W.setCell ⟨l,7,none⟩ (.int .i64 ((L.head:Int)+(C:Int)))) ((W.setCell ⟨l,7,none⟩ (.int .i64 ((L.head:Int)+(C:Int)))).setCell ⟨w.heap.size+1,0,none⟩ (.int .i64 0)):=aJ (F:=λk=>k=w.heap.size+1) _ rfl 0 _;have iB:=(Mn.o.dk.E2 eH Km).E2 aX (EY ib.o (by omega) (by omega));have cm:cQ ((W.setCell ⟨l,7,none⟩ (.int .i64 ((L.head:Int)+(C:Int)))).setCell ⟨w.heap.size+1,0,none⟩ (.int .i64 0)) l p {L with head:=L.head+C}:=cQ.au (G:=λk=>k=w.heap.size+1) ((heap_setCell_same _ _ 7 _ _ _ HlW.o).trans (by simp)) aX (by omega);have he1:((W.setCell ⟨l,7,none⟩ (.int .i64 ((L.head:Int)+(C:Int)))).setCell ⟨w.heap.size+1,0,none⟩ (.int .i64 0)).heap[w.heap.size+1]? =some (.cells #[.int .i64 0] 49 (0,0)):=(heap_setCell_same _ _ 0 _ _ _ ((eH.block _ (aw Mn.o.bx.2) (by omega)).trans Mn.o.bx.2)).trans (by simp);have ZD:aa (λk=>F k\/k=l) w ((W.setCell ⟨l,7,none⟩ (.int .i64 ((L.head:Int)+(C:Int)))).setCell ⟨w.heap.size+1,0,none⟩ (.int .i64 0)):=((Mn.o.kp.mono (λ_ h=> .inl h)).trans eH (λ_ h=> .inl (.inr h))).trans aX (λ_ h=> .inr (by omega));have hDl:=aw Q0;have N:=(aX.block _ (by have:=eH.size;omega) (by omega)).trans ((eH.block _ hDl (by omega)).trans Q0);have dr:=jQ eH.size aX.size;obtain⟨WZ,hWZ⟩:∃WZ,((W.setCell ⟨l,7,none⟩ (.int .i64 ((L.head:Int)+(C:Int)))).setCell ⟨w.heap.size+1,0,none⟩ (.int .i64 0))=WZ:=⟨_,rfl⟩;rw [hWZ] at iB cm he1 ZD N dr;have IU:cR+(List.range C).length<=cR+17:=by rw [List.length_range];omega
  obtain⟨T,Po,HWZ,Rx⟩:=Bg (Mm ib.o (iB.le IU) cm ZD he1 N (by omega) ef ju (by omega) (by omega)) Mn.o.ok hWZ N;clear iB cm he1 ZD N eH aX dr hWZ;go_wp2;rw [HWZ.o];refine⟨by simp, .inl ⟨_,_,rfl,run_takeDeferred Rx.o,?_⟩⟩;refine⟨_,fR rfl _ _ (w.heap.size+1) 0 rfl T.o.1,?_⟩;have J:=Po.o;rw [zh] at J T;unfold LG.append;rw [Ui,HR.o,XI,aA (by decide),aA (by rw [J];decide)];exact⟨rfl,T.o.2⟩
 case stop=>
  rintro D c a W hD ⟨j,hj,pK⟩ ⟨rfl,P⟩ Q0;have VK:a.map Fin.val=List.range (j+1):=pK;rw [VK] at P;have Uk:=E.o.au P.kp hF;have Ro:=P.no;have T:=yh (Mm ib.o (P.dk.le (by rw [List.length_range];omega:cR+(List.range (j+1)).length<=cR+17)) Uk (P.kp.mono (λ_ h=> .inl h)) P.er Q0 (by omega) ef ju (by omega) (by omega));rw [zh] at T Ro;have PZ:cP L S s d C=cP L S s d (j+1):=gw Ro C (by omega);obtain⟨HTo,HNn⟩:=bL PZ Ro;clear P Uk Ro PZ
  gi_wp2
  refine⟨by simp, .inl ⟨_,_,rfl,run_takeDeferred Q0,?_⟩⟩;refine⟨_,fR rfl _ _ (w.heap.size+1) _ rfl T.o.1,?_⟩;unfold LG.append;rw [Ui,HR.o,XI,aA (by decide),HTo.o,aE HNn.o];exact⟨rfl,T.o.2⟩
end
theorem zS {w:World} {F:Nat->Prop} {p s l m:Nat} {S:DS} {L:LG} (h:ax w F p s S m) (g:cQ w l p L) (n:L.Ok s) (q:¬F l) (a:Option Addr) (x k:Nat) (d:List Int) (i:Src w a x d) (Ue:∀y,a=some y->0<x->¬F y.block) (hd:Bytes d) (j:x<=k) (r:x<=140737488355328) (aT:S.puts.length+100<=4000000000000):
  Calls prog 175 #[pQ l, .slice a x k] w λe w'=>e= .returned (iV (L.append S s d).1)/\ax w' (more F w w') p s (L.append S s d).2.1 (m+17)/\cQ w' l p (L.append S s d).2.2/\aa (λk=>F k\/k=l) w w':=by
 by_cases c:L.fN S x=0
 .have jA:=(jC c).2.1;obtain⟨b,o,rfl⟩:=cT i jA;exact NX h g n q b o x k d i (Ue _ rfl jA) hd j c aT
 .refine(Nv h.old g n a x k r c).mono ?_;rintro e w' ⟨rfl,f⟩;unfold LG.append;rw [i.1,aE c];exact⟨rfl,((h.later f).more).le (by omega),g.later f,aa.ah _ f⟩
end B
end
section
theorem tV:∀{ns ms:CM} {x:Nat×List Int},x∈CM.bX ms ns->x∈ms\/x∈ns
 | [],_,_,h=> .inl h
 |q :: qs,ms,x,h=>by
  rcases tV (ns:=qs) (ms:=CM.put ms q.1 q.2) h with h|h
  .rcases CM.qL h with e|h
   .exact .inr (e▸List.mem_cons_self)
   .exact .inl h
  .exact .inr (List.mem_cons_of_mem _ h)
theorem vn {s:Nat} (h:L.Ok s) (S:DS) (d:List Int):(L.append S s d).2.2.Ok s/\(L.append S s d).2.2.begun=L.begun:=by
 unfold LG.append;split
 .exact⟨h,rfl⟩
 .rename_i a;obtain⟨_,_,_,b,c⟩:=jC (Decidable.byContradiction a);split
  .exact⟨h,rfl⟩
  .have:=h.th;exact⟨⟨h.s,h.n1,h.n2,h.ep,h.top,by show L.tail<=L.head+_;omega,by show L.head+_<=L.tail+L.n;omega,by show L.head+_<=1073742080;omega,λ_=>by show L.head+_<=1073741824;omega⟩,rfl⟩
theorem p7 (h:∀q∈ms,Bytes q.2):Bytes (co ms):=by
 unfold co;refine(iF _ _).append (Bytes.append ?_ ?_)
 .intro v b;obtain⟨q,_,a⟩:=List.mem_flatMap.1 b;exact iF _ _ v a
 .intro v b;obtain⟨q,c,a⟩:=List.mem_flatMap.1 b;exact h q c v a
theorem zy.form {B:Nat} {w:World} {l:List Int} {e:Ending} (h:zy B w l e) (n:0<l.length):∃g c,e= .returned (.slice (some (aD g 0)) l.length c)/\B<=g/\Src w (some (aD g 0)) l.length l/\l.length<=c:=by
 obtain⟨v,rfl,h⟩:=h;have h0:=h;obtain⟨jT,⟨e,j⟩|⟨g,a,cur,rfl,d,m,k⟩⟩:=h
 .omega
 .obtain⟨i,c',f,Rh,b,_⟩:=ay.eW h0 (by intro e;cases e);cases f;refine⟨g,a,rfl,d,?_,?_⟩
  .exact b.src
  .have:=b.le;simpa [bs] using this
theorem lY (S:DS) (s:Nat):(S.fl s).2.puts.length<=S.puts.length:=by
 unfold DS.fl;split
 .exact bP _
 .exact dU _
theorem zT (S:DS) (s f:Nat) (x:Int):(cW S s f x).2.puts.length<=S.puts.length+1:=by
 unfold cW;split
 .exact Nat.le_succ _
 .split
  .exact Nat.le_succ _
  .split
   .exact i9 _ _ _ _ _
   .exact jQ (lY _ _) (i9 _ _ _ _ _)
theorem zU (L:LG) (S:DS) (s:Nat):(L.trim S s).2.1.puts.length<=S.puts.length+2:=by
 have a:=nA L S s;unfold LG.trim;split
 .show (L.sync S s).2.puts.length<=_;omega
 .split
  .show (L.sync S s).2.puts.length<=_;omega
  .have b:=zT (L.sync S s).2 s L.f ((L.ep:Int)*4294967296+(L.head:Int));split
   .show (cW _ _ _ _).2.puts.length<=_;omega
   .show (cW _ _ _ _).2.puts.length<=_;omega
theorem zV (G:SG) (S:DS) (s:Nat):(G.check S s).2.1.puts.length<=S.puts.length+G.ov.length+3:=by
 have a:=nA G.L S s;have b:=eA (G.L.sync S s).2 s G.y.home G.ov;have c:=zU G.L (sbring (G.L.sync S s).2 s G.y.home G.ov).2 s;unfold SG.check;split
 .show (G.L.sync S s).2.puts.length<=_;omega
 .split
  .show (sbring _ _ _ _).2.puts.length<=_;omega
  .split
   .show (LG.trim _ _ _).2.1.puts.length<=_;omega
   .show (LG.trim _ _ _).2.1.puts.length<=_;omega
theorem ig.reF {w:World} {F:Nat->Prop} {p s q l m:Nat} {S:DS} {G:SG} (h:ig w F p s c q l m S G) (a:∀k,F k->F2 k) (bm:∀k,F2 k->k<w.heap.size) (nq:¬F2 q) (b:¬F2 l) (e:¬F2 m):ig w F2 p s c q l m S G:=
   ⟨h.d.mono a bm,h.st,h.lp,h.ch,nq,b,e,h.ql,h.qm,h.lm,h.lk,h.bg,h.hs,h.kb⟩
theorem mz (G:SG) (S:DS) (s:Nat):(G.check S s).2.2.y=G.y:=by
 unfold SG.check;split
 .rfl
 .split
  .rfl
  .split <;> rfl
section
variable {w w':World} {F:Nat->Prop} {p s cR q l m n:Nat} {S:DS} {G:SG} {cs:CM}
theorem Ku (h:ig w F p s cR q l m S G) (M:Ch w n cs) (Km:¬F n) (_hnq:n≠q) (mN:n≠l) (wP:n≠m) (oZ:∀x∈cs,x.1<G.y.blocks) (ZE:cs.length<=16) (cZ:S.fC) (aT:S.puts.length+5000<=4000000000000):
  Calls prog 138 #[pQ q, .map (some n)] w λe w'=>e= .returned (iV (G.bF S s cs).1)/\ig w' (more F w w') p s (cR+19) q l m (G.bF S s cs).2.1 (G.bF S s cs).2.2/\Ch w' n cs/\aa (λk=>F k\/k=l\/k=m) w w':=by
 have N:=NO (λx j=>(M.len x j).2.1);have CA:=p7 (λx j=>(M.len x j).2.2);have Z:=Kh M;have T:=λ(w1:World) (aq:bW w w1)=>F9 (h.later aq).d.old (h.later aq).lp h.lk;obtain⟨c1,H,HC,ib,hqw,hlw,VI,hnw,A5,Kk,xw⟩:=LH h.st.c1 h M h.d.lt h.st.lt h.lp.lt h.ch.lt M.lt h.ql h.qm h.lm;obtain⟨R,f⟩:=bQ (G.bF S s cs);rw [<-f];unfold SG.bF at f;obtain⟨D,hD⟩:=bQ (co cs);rw [<-hD] at f N CA Z;clear hD;have P:=(λ(r:World) (T:ig r F p s cR q l m S G)=>CJ T cZ (by omega));have uY:0<D.length:=by omega
 have nJ:=λ(w1:World) (a:Option Addr) (c:Nat)=>D0 a D.length c w1 (by omega);have NZ:(D.length+491) / 492=cY D.length:=rfl;rw [NZ] at nJ;have apz:D.length<=8258:=by omega
 clear NZ N;go_in;go_wp2_with fail;by_cases W:(G.L.room S).2=0
 .rw [aA (λh=>h W)] at f;rw [W] at T;clear W;have Ul:G.roomy S D.length=decide ((cY D.length:Int)<=(G.L.room S).1):=rfl;refine Z.mono ?_;rintro e w1 ⟨⟨B1,bK,Ul⟩,aq⟩;obtain⟨g,c,rfl,hg,kP,Xe⟩:=Ul.form uY;obtain⟨c1,hr,cN,I5⟩:=cM ((H.later aq).st.c1) (T w1 aq) aq kP;have hgw:w.heap.size<=g:=by omega
  have o8:g<w1.heap.size:=kP.old _ rfl uY;clear Z T Ul kP aq;go_wp2_with fail;refine bE hr λr aW=>?_;have ec:=aW.size;have dE:=cN.trans (aW.mono cN.size);have adw:=(I5.later aW);clear hr aW I5;go_wp2_with fail;refine(nJ r _ _).mono ?_;by_cases O:G.roomy S D.length=true
  .have k2':¬(G.L.room S).1<(cY D.length:Int):=(by rw [Ul] at O;have:=of_decide_eq_true O;omega);have wk:G.made S s D.length=(0,S,G):=(by unfold SG.made;rw [aE O]);rw [wk] at f;rw [aA (λh=>h rfl)] at f;clear h M O Ul wk P;generalize (G.L.room S).1=E1 at*;rintro e wz ⟨rfl,dw⟩;have Q:=dw.symm;subst Q;clear dw nJ;have gV:=(H.later dE);have Zx:=(HC.later dE);have aiS:¬F g:=λI=>by have:=ib _ I;omega
   have J:∀k,F k->F k\/(w.heap.size<=k/\k<r.heap.size):=λk b=> .inl b;have gQ:=(aa.ah (λk=>F k\/k=l\/k=m) dE);have I6:=B.zS gV.d gV.lp gV.lk gV.nl (some (aD g 0)) D.length c D adw (λy hy _ I=>by
    cases hy;exact aiS I) CA Xe (by omega) (by omega)
   have RM:=vn gV.lk S D;have cA:=gV.st.c1;obtain⟨A,hA⟩:=bQ (G.L.append S s D);rw [<-hA] at I6 RM f;clear hA;by_cases t:A.1=0
   .rw [aA (λh=>h t)] at f;have dA:(A.1 != 0)=false:=(by rw [t];rfl);have z:=f;clear f t;go_wp2_with fail;refine oX I6 λw3 i gZ aV=>?_;obtain⟨kO,fB,AZ,ML⟩:=cM aV.size (gV.st.au aV (λe=>e.elim gV.nq A5)) (gV.ch.au aV (λe=>e.elim gV.nm (λe=>xw e.symm))) (Zx.au aV (λe=>e.elim Km mN));have C:=CI AZ ML (λe=>wP e.symm);have c7:=fB.c7;have u:=(aF i (aF gZ (aF aV (aF fB ML))));clear I6 i gZ aV fB AZ ML;go_wp2_with fail;refine fk C λw4 YK dV=>?_;have vS:=dV.size;have v:(ig w4 (more F w w4) p s (cR+19) q l m A.2.1 {G with L:=A.2.2,ov:=CM.bX G.ov cs}/\Ch w4 n cs/\aa (λk=>F k\/k=l\/k=m) w w4):=by
     refine⟨⟨((u.1.le (by omega:cR+17<=cR+19)).au dV (λk b e=>?_)).mono (λk b=>?_) (cG (F:=F) (w:=w) ib (by omega)),u.2.2.2.1.au dV Kk,u.2.1.au dV xw,YK,λe=>e.elim H.nq (λe=>by omega),λe=>e.elim H.nl (λe=>by omega),λe=>e.elim H.nm (λe=>by omega),A5,Kk,xw,RM.1,RM.2.trans gV.bg,gV.hs,λx j=>?_⟩,u.2.2.2.2.au dV wP,(gQ.trans u.2.2.1 (λk b=>?_)).trans dV (λ_ e=> .inl (.inr (.inr e)))⟩
     .subst e;exact b.elim gV.nm (λh=>by omega)
     .rcases b with b|b
      .exact(J k b).elim .inl (λh=> .inr ⟨h.1,by omega⟩)
      .exact .inr ⟨by omega,by omega⟩
     .rcases tV j with j|j
      .exact gV.kb x j
      .exact oZ x j
     .rcases b with b|b
      .exact(J k b).elim (λh=> .inl (.inl h)) (λh=> .inr h.1)
      .exact .inl (.inr (.inl b))
    clear C YK dV;go_wp2;go_ret;rw [z];exact⟨rfl,v⟩
   .rw [aE t] at f;have dA:(A.1 != 0)=true:=(by rw [fT];exact t);have z:=f;clear f t;go_wp2_with fail;refine oX I6 λw3 i gZ aV=>?_;have kO:=aV.size;have v:(ig w3 (more F w w3) p s (cR+19) q l m A.2.1 {G with L:=A.2.2}/\Ch w3 n cs/\aa (λk=>F k\/k=l\/k=m) w w3):=by
     refine⟨⟨(i.le (by omega:cR+17<=cR+19)).mono (λk b=>?_) (cG (F:=F) (w:=w) ib (by omega)),gV.st.au aV (λe=>e.elim gV.nq A5),gZ,gV.ch.au aV (λe=>e.elim gV.nm (λe=>xw e.symm)),λe=>e.elim H.nq (λe=>by omega),λe=>e.elim H.nl (λe=>by omega),λe=>e.elim H.nm (λe=>by omega),A5,Kk,xw,RM.1,RM.2.trans gV.bg,gV.hs,gV.kb⟩,Zx.au aV (λe=>e.elim Km mN),gQ.trans aV (λk b=>?_)⟩
     .rcases b with b|b
      .exact(J k b).elim .inl (λh=> .inr ⟨h.1,by omega⟩)
      .exact .inr ⟨by omega,b.2⟩
     .rcases b with b|b
      .exact(J k b).elim (λh=> .inl (.inl h)) (λh=> .inr h.1)
      .exact .inl (.inr (.inl b))
    clear I6 i gZ aV;go_wp2;go_ret;rw [z];exact⟨rfl,v⟩
  .have k2':(G.L.room S).1<(cY D.length:Int):=(by rw [Ul] at O;exact Decidable.byContradiction (λh=>O (decide_eq_true (by omega))));have wk:G.made S s D.length=G.check S s:=(by unfold SG.made;rw [aA O]);rw [wk] at f;have Pi:=zV G S s;have hcy:=mz G S s;have hom:=h.ch.small;obtain⟨K,hK⟩:=bQ (G.check S s);rw [<-hK] at f Pi hcy P;clear h M O Ul wk hK;generalize (G.L.room S).1=E1 at*;rintro e r ⟨rfl,dw⟩;have Q:=dw.symm;subst Q;clear dw nJ;have ZF:=P r (H.later dE);by_cases X:K.1=0
   .rw [aA (λh=>h X)] at f;have dK:(K.1 != 0)=false:=(by rw [X];rfl);clear X;go_wp2_with fail;refine fk ZF λw5 RN dX=>?_;have qE:=dX.size;have gV:=RN;have aiT:¬more F r w5 g:=λI=>I.elim (λI=>by have:=ib _ I;omega) (λI=>by omega);have aiU:=(adw.nB dX (λy hy _ e=>by
     cases hy;rcases e with e|e|e
     .have:g<w.heap.size:=ib _ e;omega
     .have:g=l:=e;omega
     .have:g=m:=e;omega))
    have Y:=((HC.later dE).au dX (λe=>by
     rcases e with e|e|e
     .exact Km e
     .exact mN e
     .exact wP e))
    have ady:¬more F r w5 n:=λe=>e.elim Km (λe=>by omega);have RO:∀k,more F r w5 k->F k\/(w.heap.size<=k/\k<w5.heap.size):=λk b=>b.elim .inl (λh=> .inr ⟨by omega,h.2⟩);have ma:=((aa.ah (λk=>F k\/k=l\/k=m) dE).trans dX (λ_ h=> .inl h));have aiV:∀x∈cs,x.1<K.2.2.y.blocks:=(by rw [hcy];exact oZ);clear ZF RN dX;have I6:=B.zS gV.d gV.lp gV.lk gV.nl (some (aD g 0)) D.length c D aiU (λy hy _ I=>by
     cases hy;exact aiT I) CA Xe (by omega) (by omega)
    have RM:=vn gV.lk K.2.1 D;have cA:=gV.st.c1;obtain⟨A,hA⟩:=bQ (K.2.2.L.append K.2.1 s D);rw [<-hA] at I6 RM f;clear hA;by_cases t:A.1=0
    .rw [aA (λh=>h t)] at f;have dA:(A.1 != 0)=false:=(by rw [t];rfl);have z:=f;clear f t;go_wp2_with fail;refine oX I6 λw6 i gZ aV=>?_;obtain⟨kO,fB,AZ,ML⟩:=cM aV.size (gV.st.au aV (λe=>e.elim gV.nq A5)) (gV.ch.au aV (λe=>e.elim gV.nm (λe=>xw e.symm))) (Y.au aV (λe=>e.elim ady mN));have C:=CI AZ ML (λe=>wP e.symm);have c7:=fB.c7;have u:=(aF i (aF gZ (aF aV (aF fB ML))));clear I6 i gZ aV fB AZ ML;go_wp2_with fail;refine fk C λw7 YK dV=>?_;have vS:=dV.size;have v:(ig w7 (more F w w7) p s (cR+19) q l m A.2.1 {K.2.2 with L:=A.2.2,ov:=CM.bX K.2.2.ov cs}/\Ch w7 n cs/\aa (λk=>F k\/k=l\/k=m) w w7):=by
      refine⟨⟨((u.1.le (by omega:(cR+2)+17<=cR+19)).au dV (λk b e=>?_)).mono (λk b=>?_) (cG (F:=F) (w:=w) ib (by omega)),u.2.2.2.1.au dV Kk,u.2.1.au dV xw,YK,λe=>e.elim H.nq (λe=>by omega),λe=>e.elim H.nl (λe=>by omega),λe=>e.elim H.nm (λe=>by omega),A5,Kk,xw,RM.1,RM.2.trans gV.bg,gV.hs,λx j=>?_⟩,u.2.2.2.2.au dV wP,(ma.trans u.2.2.1 (λk b=>?_)).trans dV (λ_ e=> .inl (.inr (.inr e)))⟩
      .subst e;exact b.elim gV.nm (λh=>by omega)
      .rcases b with b|b
       .exact(RO k b).elim .inl (λh=> .inr ⟨h.1,by omega⟩)
       .exact .inr ⟨by omega,by omega⟩
      .rcases tV j with j|j
       .exact gV.kb x j
       .exact aiV x j
      .rcases b with b|b
       .exact(RO k b).elim (λh=> .inl (.inl h)) (λh=> .inr h.1)
       .exact .inl (.inr (.inl b))
     clear C YK dV;go_wp2;go_ret;rw [z];exact⟨rfl,v⟩
    .rw [aE t] at f;have dA:(A.1 != 0)=true:=(by rw [fT];exact t);have z:=f;clear f t;go_wp2_with fail;refine oX I6 λw6 i gZ aV=>?_;have kO:=aV.size;have v:(ig w6 (more F w w6) p s (cR+19) q l m A.2.1 {K.2.2 with L:=A.2.2}/\Ch w6 n cs/\aa (λk=>F k\/k=l\/k=m) w w6):=by
      refine⟨⟨(i.le (by omega:(cR+2)+17<=cR+19)).mono (λk b=>?_) (cG (F:=F) (w:=w) ib (by omega)),gV.st.au aV (λe=>e.elim gV.nq A5),gZ,gV.ch.au aV (λe=>e.elim gV.nm (λe=>xw e.symm)),λe=>e.elim H.nq (λe=>by omega),λe=>e.elim H.nl (λe=>by omega),λe=>e.elim H.nm (λe=>by omega),A5,Kk,xw,RM.1,RM.2.trans gV.bg,gV.hs,gV.kb⟩,Y.au aV (λe=>e.elim ady mN),ma.trans aV (λk b=>?_)⟩
      .rcases b with b|b
       .exact(RO k b).elim .inl (λh=> .inr ⟨h.1,by omega⟩)
       .exact .inr ⟨by omega,b.2⟩
      .rcases b with b|b
       .exact(RO k b).elim (λh=> .inl (.inl h)) (λh=> .inr h.1)
       .exact .inl (.inr (.inl b))
     clear I6 i gZ aV;go_wp2;go_ret;rw [z];exact⟨rfl,v⟩
   .rw [aE X] at f;have dK:(K.1 != 0)=true:=(by rw [fT];exact X);have z:=f;clear X f;go_wp2_with fail;refine fk ZF λw5 RN dX=>?_;have qE:=dX.size;have v:(ig w5 (more F w w5) p s (cR+19) q l m K.2.1 K.2.2/\Ch w5 n cs/\aa (λk=>F k\/k=l\/k=m) w w5):=by
     have o:=RN.reF (F2:=more F w w5) (λk b=>b.elim .inl (λh=> .inr ⟨by omega,h.2⟩)) (cG (F:=F) (w:=w) ib (by omega)) (λe=>e.elim H.nq (λe=>by omega)) (λe=>e.elim H.nl (λe=>by omega)) (λe=>e.elim H.nm (λe=>by omega));refine⟨⟨o.d.le (by omega),o.st,o.lp,o.ch,o.nq,o.nl,o.nm,o.ql,o.qm,o.lm,o.lk,o.bg,o.hs,o.kb⟩,(HC.later dE).au dX (λe=>?_),(aa.ah (λk=>F k\/k=l\/k=m) dE).trans dX (λ_ h=> .inl h)⟩;rcases e with e|e|e
     .exact Km e
     .exact mN e
     .exact wP e
    clear ZF RN dX;go_wp2;go_ret;rw [z];exact⟨rfl,v⟩
 .rw [aE W] at f;have d1:((G.L.room S).2 != 0)=true:=by rw [fT];exact W
  have z:=f;clear W f h M nJ CA;generalize (G.L.room S).2=E at*;generalize (G.L.room S).1=E1 at*;refine Z.mono ?_;rintro e w1 ⟨⟨B1,bK,Ul⟩,aq⟩;obtain⟨g,c,rfl,hg,kP,Xe⟩:=Ul.form uY;have c1:=(H.later aq).st.c1;have hr:=T w1 aq;have cN:=aq;clear Z T Ul kP aq;go_wp2_with fail;refine bE hr λr aW=>?_;have U:=cN.trans (aW.mono cN.size);have v:(ig r (more F w r) p s (cR+19) q l m S G/\Ch r n cs/\aa (λk=>F k\/k=l\/k=m) w r):=⟨H.GG ((H.d.later U).more.le (by omega)) (H.st.later U) (H.lp.later U) (H.ch.later U) H.lk H.bg H.kb,HC.later U,aa.ah _ U⟩;clear hr aW U;go_wp2;go_ret;rw [z];exact⟨rfl,v⟩
end
end
section
section
variable {w w':World} {F:Nat->Prop} {p s cR q l m t n:Nat} {S:DS} {G:SG} {T:TG}
theorem N0 (h:ig w F p s cR q l m S G) (aT:S.puts.length+1<=4000000000000):
  Calls prog 75 #[pQ q] w λe w'=>e= .returned (iV (G.L.sync S s).1)/\ig w' F p s cR q l m (G.L.sync S s).2 G/\aa F w w':=by
 have c:=B.zD h.d h.lp h.nl aT;have g:=h.st.c1;generalize G.L.sync S s=Z at*;go_in;go_wp2_with fail;refine oX c λw1 hd f a=>?_;have b:(ig w1 F p s cR q l m Z.2 G/\aa F w w1):=⟨⟨hd,h.st.au a h.nq,f,h.ch.au a h.nm,h.nq,h.nl,h.nm,h.ql,h.qm,h.lm,h.lk,h.bg,h.hs,h.kb⟩,a⟩;go_wp2;go_ret;exact⟨rfl,b⟩
def TG.news (T:TG) (G:SG) (S:DS):CM:=T.puts.filter λx=> !decide (x.2=G.block S x.1)
def TG.bF (T:TG) (G:SG) (S:DS) (s:Nat):Int×DS×SG×TG:=
 if T.state G S≠0 then (T.state G S,S,G,T) else
 if T.news G S= [] then (0,S,{G with busy:=false},T.close) else
 if (G.bF S s (T.news G S)).1≠0 then ((G.bF S s (T.news G S)).1,(G.bF S s (T.news G S)).2.1,(G.bF S s (T.news G S)).2.2,T)
 else (0,(G.bF S s (T.news G S)).2.1,{(G.bF S s (T.news G S)).2.2 with busy:=false},T.close)
end
end
theorem CM.N1 (h:CM.Ok ms) (P:Nat×List Int->Bool):CM.Ok (ms.filter P):=List.Pairwise.filter P h
theorem CM.get_filter (h:CM.Ok ms) (P:Nat×List Int->Bool) (k:Nat):CM.get (ms.filter P) k=(CM.get ms k).filter (λc=>P (k,c)):=by
 induction ms with
 |nil=>rfl
 |cons x xs d=>
  have b:=List.pairwise_cons.1 h;obtain⟨j,c⟩:=x;rw [CM.lO];by_cases e:j=k
  .subst e;rw [aE rfl];cases a:P (j,c)
   .rw [List.filter_cons_of_neg (by rw [a];decide),d b.2,CM.kG (λy f e=>by have:=b.1 y f;simp only at this;omega)];simp [a,Option.filter]
   .rw [List.filter_cons_of_pos a,CM.lO,aE rfl];simp [a,Option.filter]
  .rw [aA e];cases a:P (j,c)
   .rw [List.filter_cons_of_neg (by rw [a];decide),d b.2]
   .rw [List.filter_cons_of_pos a,CM.lO,aA e,d b.2]
def jG (ms X:CM) (Um:Nat->List Int) (left:Lit->Bool):Prop:=∀k,CM.get X k=if left (kk k)=false then (CM.get ms k).filter (λc=> !decide (c=Um k)) else none
theorem jG.start {left:Lit->Bool} (h:∀k c,CM.get ms k=some c->left (kk k)=true):jG ms [] Um left:=λk=>by
 show none=_;split
 .rename_i e;cases a:CM.get ms k with
  |none=>rfl
  |some c=>rw [h k c a] at e;cases e
 .rfl
theorem jG.done {left:Lit->Bool} (h:jG ms X Um left) (b:CM.Ok X) (a:CM.Ok ms) (c:∀kl,left kl=false):X=ms.filter (λx=> !decide (x.2=Um x.1)):=by
 refine CM.ext b (CM.N1 a _) (λk=>?_);rw [h k,aE (c _),CM.get_filter a]
theorem jG.au {left:Lit->Bool} {c:List Int} (h:jG ms X Um left) (b:CM.get ms k=some c) (d:left (kk k)=true) (a:c=Um k):jG ms X Um (λz=>left z && !z.sameKey (kk k)):=λj=>by
 rw [h j];show _=if (left (kk j) && !(kk j).sameKey (kk k))=false then _ else _;rw [ln];by_cases e:j=k
 .subst e;simp [b,d,a,Option.filter]
 .simp [e]
theorem jG.put {left:Lit->Bool} {c:List Int} (h:jG ms X Um left) (a:CM.Ok X) (d:CM.get ms k=some c) (b:c≠Um k):jG ms (CM.put X k c) Um (λz=>left z && !z.sameKey (kk k)):=λj=>by
 rw [CM.kr _ _ _ _ a,h j];show _=if (left (kk j) && !(kk j).sameKey (kk k))=false then _ else _;rw [ln];by_cases e:j=k
 .subst e;simp [d,b,Option.filter]
 .simp [e]
section
theorem lx {P:Program} {k:TypeId} {R:Value->Option (DataW Value×List MemPlace)} {w w':World} {b r n:Nat} {D:DataW Value} {left:Lit->Bool} {iN:Nat} (h:w.ranges P k R b r n D left iN) (g:w'.heap[b]? =w.heap[b]?) (i:w'.heap[r]? =w.heap[r]?):w'.ranges P k R b r n D left iN:=by
 obtain⟨f,a,c,d,e,m,l,p,j,o,rest⟩:=h;exact⟨f,a,c,d,e,g.trans m,l,p,j,i.trans o,rest⟩
section
variable {w w':World} {F:Nat->Prop} {p s cR q l m t n:Nat} {S:DS} {G:SG} {T:TG}
theorem GK {D:DataW Value} (h:ig w F p s cR q l m S G) (ht:mx w F q l m t n G T) (hn:ve w n T.puts D) (hf:S.fuse≠0) (aT:S.puts.length+1<=4000000000000):
  Calls prog 137 #[pQ t] w λe w'=>e= .returned (.tuple #[.map (some w.heap.size),iV 0])/\Ch w' w.heap.size (T.news G S)/\B.ax w' F p s S (cR+T.puts.length)/\aa F w w':=by
 obtain⟨mN,Pf,HS,HT,H,ib,BV,hm⟩:=rV hn.lt je (yh h) (yh ht) (yh hn) (yh h.d.lt) ( @run_makeMap prog) (Ch.made w);obtain⟨wM,Uh⟩:=bQ (w.alloc (.map #[] 0));rw [<-Uh] at hm;have K:bW w wM:=by rw [Uh];exact aI _ _
 have Z:wM.heap.size=w.heap.size+1:=by rw [Uh,World.size_alloc]
 have c1:=(ht.later K).c1;have HwM:=yh Uh;have HM:=yh hm;have I:=yh K;subst Uh;clear h ht hn hm K;go_in;go_wp2_with (at_range;refine wpList_range_own _ rfl _ 93 rfl 3 101 fX underlying93 Ra n T.puts.length D rfl (H.o.agree (I.o.block n mN)).own ?_;intro w0 pg uD xZ;go_frame);have Bb:Yh (bW w w0):=I.o.trans (((bi _ _).grown uD (bP _) (λj E=>by cases E)).mono (by omega));have R:=yh (HM.o.agree (uD.block _ HM.o.lt (λe=>by cases e)));rw [Z] at pg xZ;clear uD c1 BV HM I Z HwM;go_loopw [5] (λ_ wr=>∃(left:Lit->Bool) (iN u:Nat) (X:CM),wr.ranges prog 3 Ra n (w.heap.size+1) T.puts.length D left iN/\Ch wr w.heap.size X/\jG T.puts X (G.block S) left/\B.ax wr F p s S (cR+u)/\u+iN<=T.puts.length/\aa F w wr/\w.heap.size+2<=wr.heap.size)
    (λ_ wr=>wr.rangeLeft n (w.heap.size+1))
 case atStart=>
  exact⟨_,_,0, [],pg,R.o,jG.start (λk c hk=>(H.o.MX k c hk).1),HS.o.d.later Bb.o,by rw [H.o.siz];omega,aa.ah _ Bb.o,by omega⟩
 case round=>
  clear pg Bb R xZ;obtain⟨left,iN,u,X,mI,W,Jv,hd,hu,fP,ef⟩:=hrel;go_wp2_with (at_next;refine wpList_next_ranges _ rfl _ rfl 3 fX Ra (Value.int .i64) Value.agg (λkey kl gF=>by obtain⟨x,rfl,_⟩:=Maps.keyOf_int_inv underlying3 gF;exact⟨x,rfl⟩) Kg n (w.heap.size+1) T.puts.length _ _ _ rfl mI ?_ ?_)
  .intro _ vJ;have Y:X=T.news G S:=Jv.done W.ok H.o.ok vJ;have J:=yh (aF (Y▸W) (aF (hd.le (by omega:cR+u<=cR+T.puts.length)) fP));clear mI W Jv hd fP H HS HT Y;go_wp2;go_ret2;exact⟨rfl,J.o⟩
  .intro x ca kl yd yp a ph gF x8 N ic oR bm fU bo IQ;obtain⟨k,c,rfl,rfl,XH,tk⟩:=H.o.meets gF N ic;have nH:=H.o.len _ (CM.get_mem XH);have oZ:k<G.y.blocks:=HT.o.kb _ (CM.get_mem XH);have GL:=vj HS.o k oZ;injection tk with tk;have bt:=eQ a nH.2.1;have aU:=eJ nH.2.1;have dI:=cB c;obtain⟨A,hA⟩:=bQ (bs c);rw [<-hA] at tk bt aU dI;have pX:A.length=512:=(by rw [hA,bs,List.length_map,nH.2.1]);have bR:=all_oneCell_toArray dI;subst tk;have xM:aa (λj=>j=w.heap.size+1) wr a:=⟨fU.os,fU.tape,fU.output,fU.size,λj E dG=>fU.block j E (λe=>dG (by injection e))⟩;have cC:=hd.au xM (λj E e=>by have:=ib.o _ E;omega);have Ml:=W.au xM (λe=>by omega);obtain⟨wS,Fh⟩:=bQ ((a.alloc (.cells bh 101)).setCells a.heap.size 0 A);have dZ:=bt.2.2;have wg:bW a wS:=(by rw [Fh];exact bt.2.1);have XL:jX wS 101 a.heap.size c:=(by rw [Fh];exact bt.1);have VL:=(fP.trans xM (λj e=> .inr (by omega))).trans (aa.ah (λ_=>False) wg) (λ_ h=>h.elim);obtain⟨c0,h2,hzS,wR,Zk,HA,g⟩:=nW ((HT.o.asked VL).c0) (rI (HS.o.asked (cC.later wg) VL) k oZ hf aT) wg.size (yh (aF (lx oR (wg.block _ oR.owns.lt) (wg.block _ oR.lt)) (aF (Ml.later wg) (aF VL XL)))) (yh Fh) (yh hA) (yh (aF XH (aF x8 (aF Jv nH))));have ju:w.heap.size+2<=a.heap.size:=(by omega);clear gF N ic fU W Ml fP xM hd cC wg XL VL dI XH oR bt Jv x8 bo hA Fh;have hlS:=wR.o.2.2.2.lt
   go_upto_region 5 with (refine wpList_store_mid rfl 101 _ _ rfl a.heap.size 0 A.toArray rfl rfl ?h1 ?h2 bR ?_)
   case h1=>first|simpa using dZ|(rw [pX] at dZ;simpa using dZ)
   have Ry:=Zk.o;subst Ry;generalize NS:(a.alloc (.cells bh 101)).setCells a.heap.size 0 A=wS at*;clear NS dZ Zk IQ;unfold cV at h2;obtain⟨C,hC⟩:=bQ (bs (G.block S k));rw [<-hC] at h2;have Q:=yh hC;clear hC;go_wp2_with fail;refine fk h2 λi L aV=>?_;obtain⟨kO,bt,lQ,wj⟩:=cM aV.size (eQ i GL) (eJ GL) (cB (G.block S k));rw [<-Q.o] at bt lQ wj;have U:C.length=512:=(by rw [Q.o,bs,List.length_map,GL]);have GF:=all_oneCell_toArray wj;have dZ:=bt.2.2;obtain⟨f,VH⟩:=bQ ((i.alloc (.cells bh 101)).setCells i.heap.size 0 C);have I4:bW i f:=(by rw [VH];exact bt.2.1);have hzD:=I4.size;have CH:jX f 101 i.heap.size (G.block S k):=(by rw [VH];exact bt.1);have tW:∀j,w.heap.size<=j->¬F j:=λj E hf=>by have:=ib.o _ hf;omega
   have zQ:=(wR.o.2.2.2.au (aV.block _ hlS (tW _ (by omega)))).au (I4.block _ (by omega));have raA:f.rangeAt a.heap.size 0 A:=λj v N=>by
    have:=zQ.news j v (by rw [<-HA.o];exact N);rwa [aK] at this
   have raC:f.rangeAt i.heap.size 0 C:=λj v N=>by
    have:=CH.news j v (by rw [<-Q.o];exact N);rwa [aK] at this
   have RP:=lx (lx wR.o.1 (aV.block _ (by omega) HT.o.nn) (aV.block _ wR.o.1.lt (tW _ (by omega)))) (I4.block _ (by omega)) (I4.block _ (by omega));have b:=(wR.o.2.1.au aV (tW _ (by omega))).later I4;have VM:=(wR.o.2.2.1.trans aV (λ_ h=> .inl h)).trans (aa.ah (λ_=>False) I4) (λ_ h=>h.elim);have r:B.ax f F p s S (cR+(u+1)):=L.later I4;by_cases O:c=G.block S k
   .have dv:(!decide (c=G.block S k))=false:=(by rw [decide_eq_true O];rfl);have J:Yh (f.ranges prog 3 Ra n (w.heap.size+1) T.puts.length D (λz=>left z && !z.sameKey (kk k)) ph/\Ch f w.heap.size X/\jG T.puts X (G.block S) (λz=>left z && !z.sameKey (kk k))/\B.ax f F p s S (cR+(u+1))/\(u+1)+ph<=T.puts.length/\aa F w f/\w.heap.size+2<=f.heap.size):=⟨RP,b,g.o.2.2.1.au g.o.1 g.o.2.1 O,r,by omega,VM,by omega⟩;have M:=g.o.2.2.2.2.1;clear h2 L aV bt wj I4 CH zQ RP b VM r O tW;subst VH
    go_upto_region 6 with (refine wpList_store_mid rfl 101 _ _ rfl i.heap.size 0 C.toArray rfl rfl ?h3 ?h4 GF ?_)
    case h3=>first|simpa using dZ|(rw [U] at dZ;simpa using dZ)
    case h4=>simpa using lQ
    go_wp2_with (first|refine wpList_load_mid rfl 101 _ rfl a.heap.size 0 rfl A _ raA underlying101 rfl aU ?_|refine wpList_load_mid rfl 101 _ rfl i.heap.size 0 rfl C _ raC underlying101 rfl lQ ?_|refine rK rfl _ _ _ rfl A C c (G.block S k) HA.o Q.o rfl rfl M GL false dv ?_)
    go_frame
    go_roundw;case rel=>exact⟨_,ph,u+1,X,J.o⟩
    case measure=>rw [J.o.1.left_eq,mI.left_eq];exact bm
   .have dv:(!decide (c=G.block S k))=true:=(by rw [decide_eq_false O];rfl);obtain⟨P,bC,nc,zR,NV⟩:=b.store k g.o.2.2.2.1 c g.o.2.2.2.2.1 g.o.2.2.2.2.2;have RH:(Instr.mapUpdate 93 (.map (some w.heap.size)) (iV (k:Int)) (.agg A.toArray)).run prog f= .ok () P:=(by rw [HA.o];exact bC);have J:Yh (P.ranges prog 3 Ra n (w.heap.size+1) T.puts.length D (λz=>left z && !z.sameKey (kk k)) ph/\Ch P w.heap.size (CM.put X k c)/\jG T.puts (CM.put X k c) (G.block S) (λz=>left z && !z.sameKey (kk k))/\B.ax P F p s S (cR+(u+1))/\(u+1)+ph<=T.puts.length/\aa F w P/\w.heap.size+2<=P.heap.size):=⟨lx RP (zR.block _ (by omega) (λe=>by omega)) (zR.block _ RP.lt (λe=>by omega)),nc,g.o.2.2.1.put b.ok g.o.1 O,r.au zR (λj E e=>tW _ (Nat.le_of_eq e.symm) E),by omega,VM.trans zR (λj e=> .inr (by omega)),by have:=zR.size;omega⟩;have M:=g.o.2.2.2.2.1;clear h2 L aV bt wj I4 CH zQ RP b VM r O tW bC nc zR NV;subst VH
    go_upto_region 6 with (refine wpList_store_mid rfl 101 _ _ rfl i.heap.size 0 C.toArray rfl rfl ?h3 ?h4 GF ?_)
    case h3=>first|simpa using dZ|(rw [U] at dZ;simpa using dZ)
    case h4=>simpa using lQ
    go_wp2_with (first|refine wpList_load_mid rfl 101 _ rfl a.heap.size 0 rfl A _ raA underlying101 rfl aU ?_|refine wpList_load_mid rfl 101 _ rfl i.heap.size 0 rfl C _ raC underlying101 rfl lQ ?_|refine rK rfl _ _ _ rfl A C c (G.block S k) HA.o Q.o rfl rfl M GL true dv ?_);go_roundw;case rel=>exact⟨_,ph,u+1,_,J.o⟩
    case measure=>rw [J.o.1.left_eq,mI.left_eq];exact bm
theorem GM (h:ig w F p s cR q l m S G) (a:mx w F q l m t n G T) (b:S.fuse≠0) (aT:S.puts.length+1<=4000000000000):
  Calls prog 137 #[pQ t] w λe w'=>e= .returned (.tuple #[.map (some w.heap.size),iV 0])/\Ch w' w.heap.size (T.news G S)/\B.ax w' F p s S (cR+T.puts.length)/\aa F w w':=by
 obtain⟨D,c⟩:=a.ch;exact GK h a c b aT
end
end
section
theorem zW (G:SG) (S:DS) (s:Nat) (c:CM):(G.bF S s c).2.2.y=G.y:=by
 have a:∀x,(G.made S s x).2.2.y=G.y:=λx=>by
  unfold SG.made;split
  .rfl
  .exact mz G S s
 unfold SG.bF;split
 .rfl
 .split
  .exact a _
  .split
   .exact a _
   .exact a _
theorem zY {T:TG} {G:SG} {S:DS} (h:T.state G S=0):G.L.dead S=false:=by
 cases hd:G.L.dead S
 .rfl
 .exfalso;have:T.bX G S=3:=by unfold TG.bX;rw [hd];rfl
  unfold TG.state at h;rw [this,aE (by decide)] at h;revert h;decide
theorem GN {T:TG} {G:SG} {S:DS} {x:Nat×List Int} (h:x∈T.news G S):x∈T.puts:=(List.mem_filter.1 h).1
theorem VN (T:TG) (G:SG) (S:DS):(T.news G S).length<=T.puts.length:=List.length_filter_le _ _
section
variable {w w':World} {F:Nat->Prop} {p s cR q l m t n:Nat} {S:DS} {G:SG} {T:TG}
theorem ig.le (h:ig w F p s cR q l m S G) (a:cR<=c'):ig w F p s c' q l m S G:=
   ⟨h.d.le a,h.st,h.lp,h.ch,h.nq,h.nl,h.nm,h.ql,h.qm,h.lm,h.lk,h.bg,h.hs,h.kb⟩
theorem mx.re {H:Nat->Prop} {G':SG} (h:mx w F q l m t n G T) (a:aa H w w') (e:¬H t) (d:¬H n) (b:¬F2 t) (c:¬F2 n) (g:G'.y=G.y):mx w' F2 q l m t n G' T:=
   ⟨(a.block t (aw h.tx) e).trans h.tx,h.ch.au a d,b,c,h.tq,h.tl,h.tm,h.tn,h.nq,h.nl,h.nm,λx f=>by rw [g];exact h.kb x f⟩
theorem RQ (h:ig w F p s cR q l m S G) (a:mx w F q l m t n G T):
  Calls prog 139 #[pQ t] w λe w'=>e= .returned (.tuple #[])/\ig w' F p s cR q l m S {G with busy:=false}/\mx w' F q l m t n {G with busy:=false} T.close/\aa (λk=>k=t\/k=n\/k=q) w w':=by
 refine(Mj h.st a).mono ?_;rintro e w1 ⟨rfl,f,g,i,b⟩;refine⟨rfl,⟨h.d.au b (λk c e=>?_),i,h.lp.au b (λe=>?_),h.ch.au b (λe=>?_),h.nq,h.nl,h.nm,h.ql,h.qm,h.lm,h.lk,h.bg,h.hs,h.kb⟩,⟨f,g,a.nt,a.nn,a.tq,a.tl,a.tm,a.tn,a.nq,a.nl,a.nm,λx j=>by cases j⟩,b⟩
 .rcases e with e|e|e
  .exact a.nt (e▸c)
  .exact a.nn (e▸c)
  .exact h.nq (e▸c)
 .rcases e with e|e|e
  .exact a.tl e.symm
  .exact a.nl e.symm
  .exact h.ql e.symm
 .rcases e with e|e|e
  .exact a.tm e.symm
  .exact a.nm e.symm
  .exact h.qm e.symm
def RR (w w':World) (F:Nat->Prop) (p s c q l m t n:Nat) (r:Int×DS×SG×TG) (e:Ending):Prop:=
 e= .returned (iV r.1)/\(ig w' (more F w w') p s c q l m r.2.1 r.2.2.1/\mx w' (more F w w') q l m t n r.2.2.1 r.2.2.2)/\aa (λk=>F k\/k=l\/k=m\/k=t\/k=n\/k=q) w w'
theorem E3 {b:World} {g:Nat->Prop} {i:DS} {f:SG} {j:TG} (h0:ig w F p s cR q l m S G) (WT:mx w F q l m t n G T) (h:ig b g p s c q l m i f) (a:mx b g q l m t n f j) (o:∀k,g k->F k\/(w.heap.size<=k/\k<b.heap.size)) (u:w.heap.size<=b.heap.size) (r:c<=c'):ig b (more F w b) p s c' q l m i f/\mx b (more F w b) q l m t n f j:=by
 obtain⟨v,x,y,z,A⟩:=ey h0.st.lt h0.lp.lt h0.ch.lt (aw WT.tx) WT.ch.lt;exact⟨(h.reF o (cG h0.d.lt u) (λe=>e.elim h0.nq (λe=>by omega)) (λe=>e.elim h0.nl (λe=>by omega)) (λe=>e.elim h0.nm (λe=>by omega))).le r,⟨a.tx,a.ch,λe=>e.elim WT.nt (λe=>by omega),λe=>e.elim WT.nn (λe=>by omega),a.tq,a.tl,a.tm,a.tn,a.nq,a.nl,a.nm,a.kb⟩⟩
theorem Kv (h:ig w F p s cR q l m S G) (v:mx w F q l m t n G T) (ZE:T.puts.length<=16) (cZ:S.fC) (aT:S.puts.length+5000<=4000000000000):
  Calls prog 88 #[pQ t] w λe w'=>RR w w' F p s (cR+40) q l m t n (T.bF G S s) e:=by
 obtain⟨u,f,b,ib,hqw,hlw,VI,Me,hnw,mN,J⟩:=LH (nI h v) (yh h) (yh v) (yh h.d.lt) h.st.lt h.lp.lt h.ch.lt (aw v.tx) v.ch.lt (VN T G S) (yh (zW G S s (T.news G S)));obtain⟨R,a⟩:=bQ (T.bF G S s);rw [<-a];unfold TG.bF at a;go_in;go_wp2_with fail;by_cases k:T.state G S=0
 .rw [aA (λh=>h k)] at a;have Ff:=vl (zY k);rw [k] at u;clear k h v;refine bE u λw1 aq=>?_;have z:=GM (f.o.later aq) (b.o.later aq) Ff (by omega);by_cases H:T.news G S= []
  .rw [aE H] at a;have i:=yh a;clear a;have dr:=aq.size;have cN:=yh aq;clear u aq;go_wp2_with fail;refine oX z λY sG cC aX=>?_;have ec:=aX.size;rw [H] at sG;have D:=λU=>sG.length U;have j:=RQ ((f.o.later cN.o).asked cC aX) ((b.o.later cN.o).asked aX);have gQ:=yh (((aa.ah F cN.o).trans aX (λ_ h=> .inl h)).mono (λk c=> .inl c:∀k,F k->F k\/k=l\/k=m\/k=t\/k=n\/k=q));clear z sG cC aX;go_wp2_with fail;refine oX j λW ZG ZH aV=>?_;have g:=yh (aF (E3 (c':=cR+40) f.o b.o ZG ZH (λk c=> .inl c) (by have:=aV.size;omega) (by omega)) (gQ.o.trans aV (λk c=> .inl (.inr (.inr (.inr c))))));clear j ZG ZH aV;go_wp2;go_ret;rw [i.o];exact⟨rfl,g.o⟩
  .rw [aA H] at a;have uY:=List.length_pos_iff.2 H;obtain⟨N,I⟩:=bQ (T.news G S);have M:=yh (λx (Q:x∈N)=>(GN (T:=T) (G:=G) (S:=S) (I▸Q)));rw [<-I] at a uY mN J;have L:=yh I;obtain⟨K,P⟩:=bQ (G.bF S s N);rw [<-P] at a J;have Z:=yh P;clear P I H;rw [<-L.o] at z;have dr:=aq.size;have cN:=yh aq;clear u aq;go_wp2_with fail;refine oX z λY sG cC aX=>?_;have ec:=aX.size;have fU:=sG.lt;have r:=(b.o.later cN.o).asked aX;have D:=λU=>sG.length U;have j:=Ku ((f.o.later cN.o).asked cC aX) sG (λhf=>by have:=ib.o _ hf;omega) (by omega) (by omega) (by omega) (λx Q=>b.o.kb x (M.o x Q)) (by omega) cZ aT;rw [<-Z.o] at j;have c0:=r.c0;have O:=yh r;have gQ:=yh (((aa.ah F cN.o).trans aX (λ_ h=> .inl h)).mono (λk c=> .inl c:∀k,F k->F k\/k=l\/k=m\/k=t\/k=n\/k=q));clear z sG cC aX r;go_wp2_with fail;refine oX j λW ZG _ aV=>?_;have kO:=aV.size;have ZH:mx W (more F Y W) q l m t n K.2.2 T:=O.o.re aV (λe=>by
    rcases e with e|e|e
    .exact b.o.nt e
    .exact b.o.tl e
    .exact b.o.tm e) (λe=>by
    rcases e with e|e|e
    .exact b.o.nn e
    .exact b.o.nl e
    .exact b.o.nm e) (λe=>e.elim b.o.nt (λe=>by omega)) (λe=>e.elim b.o.nn (λe=>by omega)) J.o
   have ma:=yh (gQ.o.trans aV (λk c=> .inl (c.elim .inl (λh=> .inr (h.elim .inl (λh=> .inr (.inl h)))))));by_cases y:K.1=0
   .rw [aA (λh=>h y)] at a;have dK:(K.1 != 0)=false:=(by rw [y];rfl);have i:=yh a;clear a y;have X:=RQ ZG ZH;clear j ZG ZH aV;go_wp2_with fail;refine oX X λw4 A C dV=>?_;have vS:=dV.size;have g:=yh (aF (E3 (c':=cR+40) f.o b.o A C (λk c=>c.elim .inl (λh=> .inr ⟨by omega,by omega⟩)) (by omega) (by omega)) (ma.o.trans dV (λk c=> .inl (.inr (.inr (.inr c))))));clear X A C dV;go_wp2;go_ret;rw [i.o];exact⟨rfl,g.o⟩
   .rw [aE y] at a;have dK:(K.1 != 0)=true:=(by rw [fT];exact y);have i:=yh a;clear a y;have g:=yh (aF (E3 (c':=cR+40) f.o b.o ZG ZH (λk c=>c.elim .inl (λh=> .inr ⟨by omega,h.2⟩)) (by omega) (by omega)) ma.o);clear j ZG ZH aV;go_wp2;go_ret;rw [i.o];exact⟨rfl,g.o⟩
 .rw [aE k] at a;generalize T.state G S=E at*;have d:(E != 0)=true:=by rw [fT];exact k
  have i:=yh a;clear k a h v;refine bE u λw1 aq=>?_;have g:=yh (aF (E3 (c':=cR+40) f.o b.o (f.o.later aq) (b.o.later aq) (λk c=> .inl c) aq.size (by omega)) (aa.ah (λk=>F k\/k=l\/k=m\/k=t\/k=n\/k=q) aq));clear u aq;go_wp2;go_ret;rw [i.o];exact⟨rfl,g.o⟩
end
end
end Go.Proofs.YtenlkgicpllbhaaGreat
