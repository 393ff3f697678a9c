import Derived.Test.YtenlkgicpllbhaaGreatW01
import Derived.Test.YtenlkgicpllbhaaGreatW02
import Derived.Test.YtenlkgicpllbhaaGreatW04
import Derived.Test.YtenlkgicpllbhaaGreatW05
import Derived.Test.YtenlkgicpllbhaaGreatW09
set_option maxRecDepth 20000
set_option maxHeartbeats 8000000
set_option linter.all false
namespace Go.Proofs.YtenlkgicpllbhaaGreat
open Go.Proofs.Tryz
open Go.RowKit Go.Maps
variable {ms ov:CM} {S:DS} {c:List Int} {cR d g l n p q rb s:Nat} {Av F G:Nat->Prop} {a v:Value} {w w1 w2:World}
section
open Go.ChangeMaps (setBlock heap_setBlock_same heap_setBlock_other)
def Ra (v:Value):Option (DataW Value×List MemPlace):=
 match v with
 | .agg _=>some (.held v, [])
 |_=>none
theorem DZ {d:DataW Value} {ps:List MemPlace} (h:Ra v=some (d,ps)):d= .held v/\ps= []:=by
 unfold Ra at h;split at h
 .simp only [Option.some.injEq,Prod.mk.injEq] at h;exact⟨h.1.symm,h.2.symm⟩
 .cases h
abbrev cV (c:List Int):Value:= .agg (bs c).toArray
def acY:Option (List Int)->Value
 |some c=>cV c
 |none=> .agg bh
theorem tS {b:Value} (h:(DataW.held a:DataW Value)= .held b):a=b:=by injection h
theorem zw {b:Value} (x:Bool) (w:World) (h:a=b):(Result.ok (Value.tuple #[a, .bool x]) w:Result Value)= .ok (.tuple #[b, .bool x]) w:=by rw [h]
theorem Mh:(prog.info? 101).map (λi=>(i.zero,i.size))=some (some (.agg bh),512):=by kernel_rfl
theorem je (w:World):(zeroValue 101).run prog w= .ok (.agg bh) w:=by
 obtain⟨i,b,a⟩:=Option.map_eq_some_iff.1 Mh;simp only [Prod.mk.injEq] at a;simp [zeroValue,typeInfo,b,a.1]
structure ve (w:World) (m:Nat) (ms:CM) (D:DataW Value):Prop where
 own:w.ownsMap prog 3 Ra m ms.length D
 siz:Maps.size D=ms.length
 key:∀kl,Maps.has D kl=true->∃k:Nat,kl=kk k/\(CM.get ms k).isSome=true
 MX:∀k c,CM.get ms k=some c->Maps.has D (kk k)=true/\∀z,D.atKey (kk k) z= .held (cV c)
 no:∀k,CM.get ms k=none->Maps.has D (kk k)=false/\∀z,D.atKey (kk k) z=z
 ok:CM.Ok ms
 len:∀q∈ms,q.1<2048/\q.2.length=512/\Bytes q.2
def Ch (w:World) (m:Nat) (ms:CM):Prop:=∃D,ve w m ms D
section
variable {w w':World} {m:Nat} {ms:CM} {D:DataW Value}
theorem Rt {a b:Nat} (h:kk a=kk b):a=b:=by
 unfold kk at h;injection h with _ h;omega
theorem zx (h:w.ownsMap prog 3 Ra m n D) (e:w'.heap[m]? =w.heap[m]?):w'.ownsMap prog 3 Ra m n D:=by
 obtain⟨b,a,c,d⟩:=h;exact⟨b,a,e.trans c,d⟩
theorem ve.agree (h:ve w m ms D) (a:w'.heap[m]? =w.heap[m]?):ve w' m ms D:=⟨zx h.own a,h.siz,h.key,h.MX,h.no,h.ok,h.len⟩
theorem ve.lt (h:ve w m ms D):m<w.heap.size:=h.own.lt
theorem Ch.lt (h:Ch w m ms):m<w.heap.size:=by obtain⟨D,h⟩:=h;exact h.lt
theorem Ch.ok (h:Ch w m ms):CM.Ok ms:=by obtain⟨D,h⟩:=h;exact h.ok
theorem Ch.len (h:Ch w m ms):∀q∈ms,q.1<2048/\q.2.length=512/\Bytes q.2:=by obtain⟨D,h⟩:=h;exact h.len
theorem Ch.agree (h:Ch w m ms) (a:w'.heap[m]? =w.heap[m]?):Ch w' m ms:=by obtain⟨D,h⟩:=h;exact⟨D,h.agree a⟩
theorem Ch.au (h:Ch w m ms) (a:aa G w w') (b:¬G m):Ch w' m ms:=h.agree (a.block m h.lt b)
theorem Ch.later (h:Ch w m ms) (a:bW w w'):Ch w' m ms:=h.agree (a.block m h.lt)
theorem Ch.made (w:World):Ch (w.alloc (.map #[] 0)) w.heap.size []:=
   ⟨.map [],World.ownsMap_made w _ _ _,rfl,(λb h=>by simp [Maps.has] at h),(λk c h=>by cases h),(λk _=>⟨rfl,λz=>rfl⟩),List.Pairwise.nil,(λq a=>by cases a)⟩
theorem CM.length_le:∀{ms:CM} {n:Nat},CM.Ok ms->(∀q∈ms,q.1<n)->(∀a,(∀q∈ms,a<=q.1)->ms.length+a<=n\/ms= [])
 | [],_,_,_,_,_=> .inr rfl
 |q :: qs,n,ho,hl,a,ha=>by
  have p:=List.pairwise_cons.1 ho;have c:=hl q List.mem_cons_self;have d:=ha q List.mem_cons_self;rcases CM.length_le (n:=n) p.2 (λx b=>hl x (List.mem_cons_of_mem _ b)) (q.1+1) (λx b=>p.1 x b) with h|h
  .left;rw [List.length_cons];omega
  .left;rw [h];simp only [List.length_cons,List.length_nil];omega
theorem Ch.small (h:Ch w m ms):ms.length<=2048:=by
 rcases CM.length_le h.ok (λq b=>(h.len q b).1) 0 (λ_ _=>dU _) with a|a
 .omega
 .rw [a];exact dU _
theorem Ch.look (h:Ch w m ms) (k:Nat) (g:k<2048):
    (Instr.lookup 93 (.map (some m)) (iV (k:Int)) true).run prog w= .ok (.tuple #[acY (CM.get ms k), .bool (CM.get ms k).isSome]) w:=by
 obtain⟨D,h⟩:=h;obtain⟨v,ps,bC,a⟩:=h.own.look_ok fX underlying93 (je w) (zd:= .held (.agg bh)) (zp:= []) rfl (lD k g);rw [bC];cases f:CM.get ms k with
 |none=>
  obtain⟨b,d⟩:=h.no k f;rw [d] at a;obtain⟨e,_⟩:=DZ a;rw [b];exact zw _ _ (tS e).symm
 |some c=>
  obtain⟨b,d⟩:=h.MX k c f;rw [d] at a;obtain⟨e,_⟩:=DZ a;rw [b];exact zw _ _ (tS e).symm
theorem Ch.read (h:Ch w m ms) (k:Nat) (a:CM.get ms k=some c):
    (Instr.lookup 93 (.map (some m)) (iV (k:Int)) false).run prog w= .ok (cV c) w:=by
 obtain⟨D,h⟩:=h;obtain⟨v,ps,bC,b⟩:=h.own.lookup fX underlying93 (je w) (zd:= .held (.agg bh)) (zp:= []) rfl (lD k ((h.len _ (CM.get_mem a)).1));rw [bC];rw [(h.MX k c a).2] at b;obtain⟨d,_⟩:=DZ b;exact congrArg (λz=>Result.ok z w) (tS d).symm
theorem Ch.store (h:Ch w m ms) (k:Nat) (s:k<2048) (c:List Int) (C:c.length=512) (A:Bytes c):
  ∃w',(Instr.mapUpdate 93 (.map (some m)) (iV (k:Int)) (cV c)).run prog w= .ok () w'/\Ch w' m (CM.put ms k c)/\aa (λb=>b=m) w w'/\w'.heap.size=w.heap.size:=by
 have km:=h.small;obtain⟨D,h⟩:=h;obtain⟨w',bC,E,r⟩:=h.own.store fX underlying93 (by unfold maxLen;omega) (lD k s) (show Ra (cV c)=some (.held (cV c), []) from rfl);have p:=h.own.isMap;have gF:WideAt.IsKeyLit (kk k):=trivial;have tO:=r.grown;have ef:Maps.size (D.put (kk k) (.held (cV c)))=(CM.put ms k c).length:=by
  rw [size_put (h.own.tidy fX),CM.sv h.ok,h.siz];cases f:CM.get ms k with
  |none=>rw [(h.no k f).1];rfl
  |some x=>rw [(h.MX k x f).1];rfl
 refine⟨w',bC,⟨D.put (kk k) (.held (cV c)),?_,ef,λt mb=>?_,λj x a=>?_,λj a=>?_,CM.uZ h.ok _ _,λq l=>?_⟩,⟨tO.os,tO.tape,tO.output,tO.size,λb eC F=>tO.block b eC (λe=>F (by injection e))⟩,?_⟩
 .obtain⟨n,d,v,y,G,o⟩:=E;refine⟨n,d,v,y,?_,o⟩;rw [<-ef,o];simp [Maps.size,length_sorted]
 .by_cases i:t=kk k
  .exact⟨k,i,by rw [CM.kr _ _ _ _ h.ok,aE rfl];rfl⟩
  .rw [has_put_other i] at mb;obtain⟨j,rfl,a⟩:=h.key t mb;refine⟨j,rfl,?_⟩;rw [CM.kr _ _ _ _ h.ok,aA (λe=>i (by rw [e]))];exact a
 .rw [CM.kr _ _ _ _ h.ok] at a;by_cases e:j=k
  .rw [aE e] at a;cases a;subst e;exact⟨has_put_same p gF _,λz=>atKey_put_same p gF _ z⟩
  .rw [aA e] at a;have dG:kk j≠kk k:=λg=>e (Rt g);exact⟨by rw [has_put_other dG];exact(h.MX j x a).1,λz=>by rw [atKey_put_other dG];exact(h.MX j x a).2 z⟩
 .rw [CM.kr _ _ _ _ h.ok] at a;by_cases e:j=k
  .rw [aE e] at a;cases a
  .rw [aA e] at a;have dG:kk j≠kk k:=λg=>e (Rt g);exact⟨by rw [has_put_other dG];exact(h.no j a).1,λz=>by rw [atKey_put_other dG];exact(h.no j a).2 z⟩
 .rcases CM.qL l with rfl|l
  .exact⟨s,C,A⟩
  .exact h.len q l
 .obtain⟨n,d,u,aij,_,e⟩:=r;rw [e];simp [setBlock]
theorem Ch.length (h:Ch w m ms) (a:TypeId):(Builtin.len_ #[93] a #[.map (some m)]).run prog w= .ok (iV (ms.length:Int)) w:=by
 obtain⟨D,h⟩:=h;rw [h.own.len underlying93 a,h.siz]
theorem Ch.qB (h:Ch w m ms):∃w',(∀d,(Builtin.clear_ #[93] d #[.map (some m)]).run prog w= .ok (.tuple #[]) w')/\Ch w' m []/\aa (λk=>k=m) w w'/\w'.heap.size=w.heap.size:=by
 obtain⟨D,h⟩:=h;obtain⟨g,a,b,F,_,_⟩:=h.own;refine⟨setBlock w m (.map #[] a),?_,⟨.map [],⟨#[],a,heap_setBlock_same b _,⟨by simp,?_,by simp⟩,by simp,by simp⟩,rfl,(λi h=>by simp [Maps.has] at h),(λk c h=>by cases h),(λk _=>⟨rfl,λz=>rfl⟩),List.Pairwise.nil,(λq f=>by cases f)⟩,⟨rfl,rfl,rfl,by simp [setBlock],λk _ e=>heap_setBlock_other b _ e⟩,by simp [setBlock]⟩
 .intro d;simp [Builtin.clear_,go_sem,MapKept.run_getObj_map b,MapKept.run_setObj_map _ b,setBlock]
 .exact MapKept.stamped_empty _
end
end
def co (ms:CM):List Int:=leb 2 ms.length ++ (ms.flatMap (λq=>leb 4 q.1) ++ ms.flatMap (·.2))
theorem nG (ms:CM):(ms.flatMap (λq=>leb 4 q.1)).length=4*ms.length:=by
 induction ms with
 |nil=>rfl
 |cons q b a=>simp only [List.flatMap_cons,dT,aH,a,List.length_cons];omega
theorem vf (h:∀q∈ms,q.2.length=512):(ms.flatMap (·.2)).length=512*ms.length:=by
 induction ms with
 |nil=>rfl
 |cons q c b=>
  simp only [List.flatMap_cons,dT,b (λx a=>h x (List.mem_cons_of_mem _ a)),h q List.mem_cons_self,List.length_cons];omega
theorem NO (h:∀q∈ms,q.2.length=512):(co ms).length=2+516*ms.length:=by
 unfold co;rw [dT,dT,aH,nG,vf h];omega
theorem D0 (a:Option Addr) (n c:Nat) (w:World) (d:n<=140737488355328):
  Calls prog 174 #[.slice a n c] w λe w'=>e= .returned (iV (((n+491) / 492:Nat):Int))/\w'=w:=by
 have b:(n:Int)+492-1=((n+491:Nat):Int):=by omega
 go_in;go_wp2;go_ret;refine⟨?_,rfl⟩;refine congrArg (λz=>Ending.returned (iV z)) ?_;first|(rw [b];omega)|omega
def zy (B:Nat) (w':World) (l:List Int) (e:Ending):Prop:=∃v',e= .returned v'/\w'.ownsRow B 5 1 v' l.length (bs l)
theorem Gv {B:Nat} {l:List Int} (h:w.ownsRow B 5 1 v l.length (bs l)) (p:B<=w.heap.size) (N k:Nat) (s:k<=4) (t:l.length<=1000000):
  Calls prog 212 #[v,iV (N:Int),iV (k:Int)] w λe w'=>zy B w' (l ++ leb k N) e/\Below B w w':=by
 obtain⟨m,rt,gv,dr,ec⟩:=info_parts fW;go_in;go_wp2;go_loopw [0,9] (λu i wr=>∃j:Nat,j<=k/\i=iV (j:Int)/\wr.ownsRow B 5 1 u (l ++ leb j N).length (bs (l ++ leb j N))/\Below B w wr) (λ_ i _=>k-(intOf i).toNat);case atStart=>exact⟨0,dU _,rfl,by simpa [leb] using h,bi _ _⟩
 case round=>
  obtain⟨j,r,rfl,aY,b⟩:=hrel;have g:=b.size;by_cases bm:j<k
  .have cw:(j:Int)<(k:Int):=(by omega);have a:=aH j N;have Ro:(0:Int)<=8*(j:Int):=(by omega);have uP:=aY;have jT:(l ++ leb j N).length+1<=1000010:=(by rw [dT,a];omega);go_wp2_with (at_builtin;refine wpList_append_own _ rfl _ _ 36 rfl B 5 m (.int .u8 0) 1 1 underlying36 rt gv dr ec rfl (by decide) _ _ _ rfl (uP.alloc _) (aD wr.heap.size 0) 1 1 [.int .u8 ((N / 2 ^ (8*j)%256:Nat):Int)] rfl rfl (cell_one_new _ _ _) (ints_oneCell .u8 [((N / 2 ^ (8*j)%256:Nat):Int)]) (by unfold maxLen;omega) (by omega) (by simp;omega) ?_);intro n o cJ aO jx;have uM:=λq e=>(aY.lt q e).1;have bz:=(b.alloc (by omega) _).grown aO (by simp;omega) (λq e=>uM q e);have fE:o.ownsRow B 5 1 n (l ++ leb (j+1) N).length (bs (l ++ leb (j+1) N)):=by
    have d:(l ++ leb j N ++ [((N / 2 ^ (8*j)%256:Nat):Int)]).length=(l ++ leb j N).length+1:=(by simp only [dT,List.length_singleton]);have f:bs (l ++ leb j N ++ [((N / 2 ^ (8*j)%256:Nat):Int)])=bs (l ++ leb j N) ++ [.int .u8 ((N / 2 ^ (8*j)%256:Nat):Int)]:=(by simp only [bs,List.map_append,List.map_cons,List.map_nil]);rw [iX,<-List.append_assoc,d,f,dT,a];simpa [bs] using cJ
   go_wp2;go_roundw;case rel=>exact⟨j+1,by omega,by go_num,fE,bz⟩
   case measure=>simp [intOf];omega
  .have cw:¬(j:Int)<(k:Int):=(by omega);obtain rfl:j=k:=(by omega);have c:=(aF aY b);go_wp2;go_ret;exact⟨⟨_,rfl,c.1⟩,c.2⟩
def sbring (S:DS) (s home:Nat):CM->Int×DS
 | []=>(0,S)
 |q :: qs=>if (S.wr s ((home+q.1:Nat):Int) 512 q.2).1≠0 then S.wr s ((home+q.1:Nat):Int) 512 q.2 else sbring (S.wr s ((home+q.1:Nat):Int) 512 q.2).2 s home qs
structure LY where
 log:Nat
 home:Nat
 blocks:Nat
 nodes:Nat
 data:Nat
structure SG where
 y:LY
 L:LG
 ov:CM
 busy:Bool
structure TG where
 puts:CM
 bad:Int
 ended : Bool
def SG.check (G:SG) (S:DS) (s:Nat):Int×DS×SG:=
 if (G.L.sync S s).1≠0 then ((G.L.sync S s).1,(G.L.sync S s).2,G) else
 if (sbring (G.L.sync S s).2 s G.y.home G.ov).1≠0 then ((sbring (G.L.sync S s).2 s G.y.home G.ov).1,(sbring (G.L.sync S s).2 s G.y.home G.ov).2,G) else
 if (G.L.trim (sbring (G.L.sync S s).2 s G.y.home G.ov).2 s).1≠0 then ((G.L.trim (sbring (G.L.sync S s).2 s G.y.home G.ov).2 s).1,(G.L.trim (sbring (G.L.sync S s).2 s G.y.home G.ov).2 s).2.1,{G with L:=(G.L.trim (sbring (G.L.sync S s).2 s G.y.home G.ov).2 s).2.2})
 else (0,(G.L.trim (sbring (G.L.sync S s).2 s G.y.home G.ov).2 s).2.1,{G with L:=(G.L.trim (sbring (G.L.sync S s).2 s G.y.home G.ov).2 s).2.2,ov:= []})
def SG.roomy (G:SG) (S:DS) (x:Nat):Bool:=decide ((cY x:Int)<=(G.L.room S).1)
def SG.made (G:SG) (S:DS) (s:Nat) (x:Nat):Int×DS×SG:=if G.roomy S x=true then (0,S,G) else G.check S s
def SG.bF (G:SG) (S:DS) (s:Nat) (c:CM):Int×DS×SG:=
 if (G.L.room S).2≠0 then ((G.L.room S).2,S,G) else
 if (G.made S s (co c).length).1≠0 then G.made S s (co c).length else
 if ((G.made S s (co c).length).2.2.L.append (G.made S s (co c).length).2.1 s (co c)).1≠0 then
    (((G.made S s (co c).length).2.2.L.append (G.made S s (co c).length).2.1 s (co c)).1,((G.made S s (co c).length).2.2.L.append (G.made S s (co c).length).2.1 s (co c)).2.1,{(G.made S s (co c).length).2.2 with L:=((G.made S s (co c).length).2.2.L.append (G.made S s (co c).length).2.1 s (co c)).2.2})
 else (0,((G.made S s (co c).length).2.2.L.append (G.made S s (co c).length).2.1 s (co c)).2.1,{(G.made S s (co c).length).2.2 with L:=((G.made S s (co c).length).2.2.L.append (G.made S s (co c).length).2.1 s (co c)).2.2,ov:=CM.bX (G.made S s (co c).length).2.2.ov c})
def SG.block (G:SG) (S:DS) (b:Nat):List Int:=(CM.get G.ov b).getD (S.now (G.y.home+b))
def TG.jN (T:TG) (G:SG) (S:DS) (b:Nat):List Int:=(CM.get T.puts b).getD (G.block S b)
def TG.bX (T:TG) (G:SG) (S:DS):Int:=if G.L.dead S=true then 3 else if T.ended=true then 4 else 0
def TG.state (T:TG) (G:SG) (S:DS):Int:=if T.bX G S≠0 then T.bX G S else T.bad
def TG.refusal (T:TG) (G:SG) (S:DS) (b:Int):Int:=if T.state G S≠0 then T.state G S else if b<0\/(G.y.blocks:Int)<=b then 11 else 0
theorem Kg (v:Value) (y:DataW Value×List MemPlace) (h:Ra v=some y):∃c,v=Value.agg c:=by
 unfold Ra at h;split at h
 .exact⟨_,rfl⟩
 .cases h
theorem ve.met {m:Nat} {D:DataW Value} (h:ve w m ms D) {x:Int} {a:Lit} {y:DataW Value} (gF:keyOf prog 3 (iV x)=some a) (ic:∀zd,D.atKey a zd=y):
  ∃k:Nat,x=(k:Int)/\a=kk k/\(CM.get ms k).isSome=true:=by
 obtain⟨k,rfl,d⟩:=h.key a (Maps.has_true_of_atKey ic);obtain⟨f,c,b,_⟩:=Maps.keyOf_int_inv underlying3 gF;have e:x=(k:Int):=by cases c;simpa [kk] using b.symm
 exact⟨k,e,rfl,d⟩
theorem mem_keys (b:CM.Ok ms) (k:Nat):k∈CM.keys ms↔(CM.get ms k).isSome=true:=by
 constructor
 .intro h;obtain⟨q,d,e⟩:=List.mem_map.1 h;rw [CM.get_of_mem b (k:=k) (c:=q.2) (by rw [<-e];exact d)];rfl
 .intro h;obtain⟨c,a⟩:=Option.isSome_iff_exists.1 h;exact List.mem_map.2 ⟨_,CM.get_mem a,rfl⟩
theorem NP (f:CM.Ok ms) {ks:List Nat} (i:ks.Nodup) (g:∀k,k∈ks↔(CM.get ms k).isSome=true):
    ((ks.map (λk:Nat=>(k:Int))).mergeSort λx y=>decide (x<=y))=(CM.keys ms).map (λk:Nat=>(k:Int)):=by
 have bm:=CM.Vr f;have mg:(CM.keys ms).Nodup:=bm.imp (λh=>Nat.ne_of_lt h);have PU:=(List.perm_ext_iff_of_nodup i mg).2 (λk=>by rw [g,mem_keys f]);have bo:((CM.keys ms).map (λk:Nat=>(k:Int))).Pairwise (λx y=>decide (x<=y)=true):=by
  refine List.pairwise_map.2 ?_;exact bm.imp (λh=>by simp;omega)
 have l:∀a b c:Int,decide (a<=b)=true->decide (b<=c)=true->decide (a<=c)=true:=λa b c d e=>by simp only [decide_eq_true_eq] at*;omega
 have j:∀a b:Int,(decide (a<=b) || decide (b<=a))=true:=λa b=>by simp only [Bool.or_eq_true,decide_eq_true_eq];omega
 refine List.Perm.eq_of_pairwise (le:=λa b=>decide (a<=b)=true) (λa b _ _ d e=>?_) (List.pairwise_mergeSort l j _) bo ((List.mergeSort_perm _ _).trans (PU.map _));simp only [decide_eq_true_eq] at d e;omega
theorem Gw {m:Nat} {D:DataW Value} (h:ve w m ms D):
  Calls prog 159 #[.map (some m)] w λe w'=>∃a c,e= .returned (.slice a (CM.keys ms).length c)/\(CM.keys ms≠ []->∃g,a=some (aD g 0)/\w.heap.size<=g/\ay w' 3 g c (yr (CM.keys ms)))/\bW w w':=by
 obtain⟨F,rt,gv,dr,ec⟩:=info_parts Dh;have AY:=h.lt;have km:=Ch.small ⟨D,h⟩;have H:=yh h;clear h;go_in;go_wp2_with (at_range;refine wpList_range_own _ rfl _ 93 rfl 3 101 fX underlying93 Ra m ms.length D rfl H.o.own ?_;intro w0 pg uD xZ;go_frame);have fo:=(bi _ w).grown uD (bP _) (λj l=>by cases l);clear uD;go_loopw [3,4] (λv _ wr=>∃(left:Lit->Bool) (iN:Nat) (ks:List Nat),wr.ranges prog 3 Ra m w.heap.size ms.length D left iN/\wr.ownsRow (w.heap.size+1) 3 1 v ks.length (yr ks)/\
   ks.Nodup/\(∀k,k∈ks↔(CM.get ms k).isSome=true/\left (kk k)=false)/\bW w wr/\ks.length+iN<=ms.length/\w.heap.size+1<=wr.heap.size)
    (λ_ _ wr=>wr.rangeLeft m w.heap.size)
 case atStart=>
  refine⟨_,_, [],pg,World.ownsRow_nil _ _ _ _,List.nodup_nil,λk=>?_,fo,by simpa using H.o.own.size_le,by omega⟩;constructor
  .intro p;cases p
  .rintro ⟨q,r⟩;obtain⟨c,A⟩:=Option.isSome_iff_exists.1 q;rw [(H.o.MX k c A).1] at r;cases r
 case round=>
  clear pg fo xZ;obtain⟨left,iN,ks,mI,aY,IR,rj,i,nY,ef⟩:=hrel;go_wp2_with (at_next;refine wpList_next_ranges _ rfl _ rfl 3 fX Ra (Value.int .i64) Value.agg (λG I gF=>by obtain⟨x,rfl,_⟩:=Maps.keyOf_int_inv underlying3 gF;exact⟨x,rfl⟩) Kg m w.heap.size ms.length _ _ _ rfl mI ?_ ?_)
  .intro _ vJ;have yu:∀k,k∈ks↔(CM.get ms k).isSome=true:=λk=>by rw [rj,vJ];simp
   have Jm:=NP H.o.ok IR yu;have d:ks.length=(CM.keys ms).length:=by
    have:=congrArg List.length Jm;rw [List.length_mergeSort] at this;simpa using this
   have B8:ks= []->CM.keys ms= []:=λe=>by rw [e] at d;exact List.eq_nil_of_length_eq_zero d.symm
   rcases aY.2 with ⟨rfl,E⟩|⟨g,f,cur,rfl,M,sd,L,u,y,n⟩
   .have eF:=B8 (List.eq_nil_of_length_eq_zero E);have fZ:=vM wr;clear aY rj yu Jm mI H;go_wp2_with (go_at_call 125;refine fZ.mono ?_;rintro e K ⟨rfl,A3⟩);go_ret;exact⟨none,0,by simp [eF],λh=>absurd eF h,i.trans (A3.mono i.size)⟩
   .have TY:ay wr 3 g f ((ks.map (λk:Nat=>(k:Int))).map (Value.int .i64)):=by
     rw [LL];refine⟨cur,sd,by simpa using y,?_,u⟩;simp only [Nat.mul_one] at n;rw [show (yr ks).length=ks.length by simp [yr]];exact n
    have l6:=vL g f _ wr TY (by simp;omega);simp only [List.length_map] at l6;rw [Jm] at l6;have MM:=yh d;clear aY rj yu Jm mI H TY d n;go_wp2_with (go_at_call 125;refine l6.mono ?_;rintro e K ⟨rfl,Dr,A4⟩);go_ret;refine⟨some (aD g 0),f,?_,λ_=>⟨g,rfl,by omega,?_⟩,i.trans (A4.below (λj l=>by omega) i.size)⟩
    .rw [<-MM.o];rfl
    .rw [<-LL];exact Dr
  .intro x ca I N O s ph gF x8 C ic oR bm fU bo IQ;obtain⟨k,rfl,rfl,q⟩:=H.o.met gF ic;have xr:k∉ks:=λp=>by rw [((rj k).1 p).2] at x8;cases x8
   have lL:=aY.kept fU (.inr (λe=>by have:=aY.lt _ e;omega));have aW:=i.grown fU i.size (λj l=>by cases l;exact bP _);have ju:w.heap.size+1<=s.heap.size:=(by omega);have FE:∀j,j∈ks ++ [k]↔(CM.get ms j).isSome=true/\(left (kk j) && !(kk j).sameKey (kk k))=false:=λj=>by
    rw [List.mem_append,List.mem_singleton,rj,ln];by_cases e:j=k
    .subst e;simp [q]
    .simp [e]
   have d:ks.length+1<=5000000000000:=(by omega);obtain⟨PX,yv⟩:=bL FE lL;clear gF C ic bo fU rj FE lL;go_wp2_with (at_builtin;refine wpList_append_own _ rfl _ _ 23 rfl (w.heap.size+1) 3 F (iV 0) 1 8 underlying23 rt gv dr ec rfl (by decide) _ _ _ rfl (yv.o.alloc _) (aD s.heap.size 0) 1 1 [iV (k:Int)] rfl rfl (cell_one_new _ _ _) (ints_oneCell .i64 [(k:Int)]) (by unfold maxLen;omega) (by omega) (by simp;omega) ?_);intro J t cJ aO jx;have uM:=λj e=>(aY.lt j e).1;have Ji:=(oR.alloc (.cells #[.int .i64 (k:Int)] 3)).kept aO (λe=>by have:=uM m e.symm;omega) (λe=>by have:=uM _ e.symm;omega);have bz:=(aW.alloc (by omega) _).grown aO (by simp;omega) (λj e=>by have:=uM j e;omega);have Dj:w.heap.size+1<=t.heap.size:=(by have:=aO.size;simp at this;omega);have YF:(ks ++ [k]).Nodup:=List.nodup_append.2 ⟨IR,by simp,by intro a z b eC e;simp at eC;subst eC;exact xr (e▸z)⟩;have fE:t.ownsRow (w.heap.size+1) 3 1 J (ks ++ [k]).length (yr (ks ++ [k])):=(by simpa [yr] using cJ);obtain⟨iW,Fx⟩:=bL fE Ji;clear cJ aO jx fE Ji aY yv oR IQ;go_wp2;go_roundw;case rel=>exact⟨_,ph,ks ++ [k],Fx.o,iW.o,YF,PX.o,bz,by simp;omega,Dj⟩
   case measure=>rw [Fx.o.left_eq,mI.left_eq];exact bm
theorem wd {m:Nat} (h:Ch w m ms):
  Calls prog 159 #[.map (some m)] w λe w'=>∃a c,e= .returned (.slice a (CM.keys ms).length c)/\(CM.keys ms≠ []->∃g,a=some (aD g 0)/\w.heap.size<=g/\ay w' 3 g c (yr (CM.keys ms)))/\bW w w':=by
 obtain⟨D,h⟩:=h;exact Gw h
theorem eJ {l:List Int} (h:l.length=512):(prog.info? 101).map (·.size)=some (bs l).length:=by
 obtain⟨i,b,a⟩:=Option.map_eq_some_iff.1 Mh;simp only [Prod.mk.injEq] at a;rw [b,bs,List.length_map,h,<-a.2];rfl
theorem eQ (w:World) (a:c.length=512):jX ((w.alloc (.cells bh 101)).setCells w.heap.size 0 (bs c)) 101 w.heap.size c/\Below w.heap.size w ((w.alloc (.cells bh 101)).setCells w.heap.size 0 (bs c))/\(w.alloc (.cells bh 101)).there w.heap.size 0 (bs c).length:=by
 have bN:(w.alloc (.cells bh 101)).heap[w.heap.size]? =some (.cells bh 101 (0,0)):=heap_alloc_new _ _;have bK:Below w.heap.size w (w.alloc (.cells bh 101)):=(bi _ w).alloc (bP _) _;refine⟨eE (l:=c) bN (by rw [cI,a]),bK.trans ((aa.setCells (F:=λj=>j=w.heap.size) rfl (bs c) 0 _).below (λj b=>by omega) bK.size),?_⟩;rw [bs,List.length_map,a];exact(cE bN cI)
theorem jX.news {T:TypeId} {l:List Int} (h:jX w T g l):∀j u,(bs l)[j]? =some u->w.cell? (((aD g 0):Addr).add j)=some u:=λj u b=>by
 obtain⟨a,rfl⟩:=fq b;rw [aK,Nat.zero_add];exact h.cell a
theorem we {W W':World} {B:Nat} {e:TypeId} {xs:List Value} (h:W.ownsRow B e 1 v n xs) (f:∀g,v.ownBlock=some g->W'.heap[g]? =W.heap[g]?):W'.ownsRow B e 1 v n xs:=by
 obtain⟨b,⟨e,c⟩|⟨g,a,cur,rfl,i,sd,d⟩⟩:=h
 .exact⟨b, .inl ⟨e,c⟩⟩
 .exact⟨b, .inr ⟨g,a,cur,rfl,i,(f g rfl).trans sd,d⟩⟩
theorem D1 {j:Nat} (a:j<ms.length):(yr (CM.keys ms))[j]? =some (iV ((ms[j]).1:Int)):=by
 simp [yr,CM.keys,a]
theorem Kh {m:Nat} (h:Ch w m ms):
  Calls prog 173 #[.map (some m)] w λe w'=>(∃B,w.heap.size<=B/\zy B w' (co ms) e)/\bW w w':=by
 obtain⟨L,rt,gv,dr,ec⟩:=info_parts fW;obtain⟨h1,km,d,dh⟩:=cM (wd h) h.small h.len h.ok;have mb:(CM.keys ms).length=ms.length:=by simp [CM.keys]
 rw [mb] at h1;have Pf:=je;have E:=yh h;clear h;go_in;go_wp2_with fail;refine h1.mono ?_;rintro e w1 ⟨a,c,rfl,aY,aq⟩;have acZ:=aq.size;have cm:=Gv (w:=w1) (B:=w1.heap.size) (v:= .slice none 0 0) (l:= []) (World.ownsRow_nil _ _ _ _) (bP _) ms.length 2 (by omega) (by simp);rw [show ((2:Nat):Int)=2 from rfl] at cm;obtain⟨Vx,cN⟩:=bL aY aq;clear h1 aY aq;go_wp2_with fail;refine cm.mono ?_;rintro e P ⟨⟨M,rfl,jo⟩,aW⟩;rw [List.nil_append] at jo;have Vy:=yh (aF jo aW);clear cm jo aW;go_wp2;go_loopw [4,17] (λu i wr=>∃j:Nat,j<=ms.length/\i=iV (j:Int)/\wr.ownsRow w1.heap.size 5 1 u (leb 2 ms.length ++ (ms.take j).flatMap (λq=>leb 4 q.1)).length (bs (leb 2 ms.length ++ (ms.take j).flatMap (λq=>leb 4 q.1)))/\bW w1 wr) (λ_ i _=>ms.length-(intOf i).toNat);case atStart=>exact⟨0,dU _,rfl,by simpa using Vy.o.1,Vy.o.2⟩
 case round=>
  clear Vy;obtain⟨j,J,rfl,az,b⟩:=hrel;have n:=b.size;by_cases bm:j<ms.length
  .have cw:(j:Int)<(ms.length:Int):=(by omega);have Xc:(0:Int)<=(j:Int):=(by omega);obtain⟨g,rfl,I,p⟩:=Vx.o (by simp [CM.keys];intro e;rw [e] at bm;simp at bm);have x:=(p.agree (b.block g p.lt)).cell (D1 bm);have k:=d _ (List.getElem_mem bm);have fy:=Gv az n (ms[j]).1 4 (by omega) (by
    rw [dT,aH,nG,List.length_take];omega)
   rw [show ((4:Nat):Int)=4 from rfl,List.append_assoc,show (ms.take j).flatMap (λq=>leb 4 q.1) ++ leb 4 (ms[j]).1=(ms.take (j+1)).flatMap (λq=>leb 4 q.1) by rw [List.take_succ_eq_append_getElem bm,List.flatMap_append];simp] at fy;have r:=yh b;clear p az b;generalize (ms[j]).1=K at*;go_wp2_with fail;refine fy.mono ?_;rintro e z ⟨⟨N,rfl,Bu⟩,bz⟩;have f:=yh (aF Bu (r.o.trans bz));clear fy Bu bz;go_wp2;go_roundw;case rel=>exact⟨j+1,by omega,by go_num,f.o⟩
   case measure=>simp [intOf];omega
  .have cw:¬(j:Int)<(ms.length:Int):=(by omega);obtain rfl:j=ms.length:=(by omega);rw [List.take_length] at az;have f:=yh (aF az b);clear az b
   rename World=>wo
   go_wp2;go_loopw [4,27] (λu i wr=>∃j:Nat,j<=ms.length/\i=iV (j:Int)/\wr.ownsRow w1.heap.size 5 1 u (leb 2 ms.length ++ ((ms.flatMap λq=>leb 4 q.1) ++ (ms.take j).flatMap (·.2))).length (bs (leb 2 ms.length ++ ((ms.flatMap λq=>leb 4 q.1) ++ (ms.take j).flatMap (·.2))))/\bW w1 wr) (λ_ i _=>ms.length-(intOf i).toNat);case atStart=>exact⟨0,dU _,rfl,by simpa using f.o.1,f.o.2⟩
   case round=>
    clear f;obtain⟨j,J,rfl,az,b⟩:=hrel;have n:=b.size;by_cases bm:j<ms.length
    .have oS:(j:Int)<(ms.length:Int):=(by omega);have Xc:(0:Int)<=(j:Int):=(by omega);obtain⟨g,rfl,I,p⟩:=Vx.o (by simp [CM.keys];intro e;rw [e] at bm;simp at bm);have x:=(p.agree (b.block g p.lt)).cell (D1 bm);have k:=d _ (List.getElem_mem bm);have bt:=eQ wr k.2.1;have aU:=eJ k.2.1;have dI:=cB (ms[j]).2;have pX:(bs (ms[j]).2).length=512:=(by rw [bs,List.length_map,k.2.1]);have zz:leb 2 ms.length ++ ((ms.flatMap λq=>leb 4 q.1) ++ (ms.take (j+1)).flatMap (·.2))=leb 2 ms.length ++ ((ms.flatMap λq=>leb 4 q.1) ++ (ms.take j).flatMap (·.2)) ++ (ms[j]).2:=by
      rw [List.take_succ_eq_append_getElem bm,List.flatMap_append];simp
     have jT:(leb 2 ms.length ++ ((ms.flatMap λq=>leb 4 q.1) ++ (ms.take j).flatMap (·.2))).length<=2000000:=by
      rw [dT,dT,aH,nG,vf (λq k=>(d q (List.mem_of_mem_take k)).2.1),List.length_take];omega
     have mN:(leb 2 ms.length ++ ((ms.flatMap λq=>leb 4 q.1) ++ (ms.take (j+1)).flatMap (·.2))).length=(leb 2 ms.length ++ ((ms.flatMap λq=>leb 4 q.1) ++ (ms.take j).flatMap (·.2))).length+512:=(by rw [zz,dT,k.2.1]);have YL:bs (leb 2 ms.length ++ ((ms.flatMap λq=>leb 4 q.1) ++ (ms.take (j+1)).flatMap (·.2)))=bs (leb 2 ms.length ++ ((ms.flatMap λq=>leb 4 q.1) ++ (ms.take j).flatMap (·.2))) ++ bs (ms[j]).2:=(by rw [zz];simp only [bs,List.map_append]);have s:=yh (aF mN YL);generalize leb 2 ms.length ++ ((ms.flatMap λq=>leb 4 q.1) ++ (ms.take j).flatMap (·.2))=X at*;have Ru:=bt.1.news;obtain⟨A,t⟩:=bQ (bs (ms[j]).2);rw [<-t] at aU dI pX Ru bt;have Zj:(Instr.lookup 93 (.map (some m)) (iV ((ms[j]).1:Int)) false).run prog wr= .ok (.agg A.toArray) wr:=(by rw [t];exact(((E.o.later cN.o).later b).read (ms[j]).1 (CM.get_of_mem dh (List.getElem_mem bm))));have D:=yh t;have bR:=all_oneCell_toArray dI;obtain⟨C,Fh⟩:=bQ ((wr.alloc (.cells bh 101)).setCells wr.heap.size 0 A);have dZ:=bt.2.2;have wg:bW wr C:=(by rw [Fh];exact bt.2.1);have lL:=we az (λq k=>wg.block q (by have:=(az.lt q k).2;omega));have Rv:∀j u,A[j]? =some u->C.cell? (((aD wr.heap.size 0):Addr).add j)=some u:=(by rw [Fh];exact Ru);obtain⟨yv,ac1,Zk⟩:=jS lL Rv Fh;have uM:=λq e=>(az.lt q e).1;have r:=yh (aF b wg);clear bt p az b lL Ru Rv wg t mN YL zz k;generalize (ms[j]).1=K at*;generalize bh=Z at*;go_wp2_with (first|refine wpList_store_mid rfl 101 _ _ rfl wr.heap.size 0 A.toArray rfl rfl ?h1 ?h2 bR ?_|(rw [<-Zk.o];at_builtin;refine wpList_append_own _ rfl _ _ 36 rfl w1.heap.size 5 L (.int .u8 0) 1 1 underlying36 rt gv dr ec rfl (by decide) _ _ _ rfl yv.o (aD wr.heap.size 0) 512 512 A rfl ?n0 ac1.o ?n2 ?n3 ?n4 ?n5 ?_));case h1=>rw [pX] at dZ;simpa using dZ
     case n2=>exact dI
     case n3=>unfold maxLen;omega
     case n4=>omega
     case n5=>rw [<-Zk.o];have:=r.o.2.size;omega
     intro y z cJ aO jx;rw [<-Zk.o] at aO;have bz:=(r.o.1.trans (r.o.2.mono n)).grown aO (by have:=r.o.2.size;omega) (λq e=>uM q e);have fE:zy w1.heap.size z (leb 2 ms.length ++ ((ms.flatMap λq=>leb 4 q.1) ++ (ms.take (j+1)).flatMap (·.2))) (.returned y):=by
      refine⟨y,rfl,?_⟩;rw [s.o.1,s.o.2,<-D.o];simpa [bs] using cJ
     have f:=yh (aF fE bz);clear cJ aO jx fE bz;go_wp2;go_roundw;case rel=>
      obtain⟨⟨O,F,H⟩,G⟩:=f.o;cases F;exact⟨j+1,by omega,by go_num,H,G⟩
     case measure=>simp [intOf];omega
    .have oS:¬(j:Int)<(ms.length:Int):=(by omega);obtain rfl:j=ms.length:=(by omega);rw [List.take_length] at az;have f:=yh (aF az (cN.o.trans (b.mono acZ)));clear az b;go_wp2;go_ret;exact⟨⟨w1.heap.size,acZ,_,rfl,f.o.1⟩,f.o.2⟩
section
namespace B
def Rb (r:Int) (c:Nat):Prop:=c<4611686018427387904->0<=r/\r<=(c:Int)
theorem Rb.read {r:Int} {c:Nat} (h:Rb r c):Rb (wrap64 (r+1)) (c+1):=by
 intro b;have a:=h (by omega);have e:wrap64 (r+1)=r+1:=by unfold wrap64;omega
 rw [e];omega
theorem Rb.le {r:Int} {c:Nat} (h:Rb r c) (hd:c<=d):Rb r d:=by
 intro b;have a:=h (by omega);omega
def ax (w:World) (F:Nat->Prop) (p s:Nat) (S:DS) (c:Nat):Prop:=∃r,aP w F p s (S.DO r)/\Rb r c
section
variable {w w':World} {F G:Nat->Prop} {p s c:Nat} {S:DS}
theorem ax.old (h:ax w F p s S c):Go.Proofs.YtenlkgicpllbhaaGreat.ax w F p s S:=by obtain⟨r,h,_⟩:=h;exact⟨r,h⟩
theorem ax.le (h:ax w F p s S c) (hd:c<=d):ax w F p s S d:=by obtain⟨r,h,a⟩:=h;exact⟨r,h,a.le hd⟩
theorem ax.ok (h:ax w F p s S c):S.Ok s:=h.old.ok
theorem ax.lt (h:ax w F p s S c):∀k,F k->k<w.heap.size:=h.old.lt
theorem ax.au (h:ax w F p s S c) (k:aa G w w') (hd:∀k,F k->¬G k):ax w' F p s S c:=by obtain⟨r,h,a⟩:=h;exact⟨r,h.au k hd,a⟩
theorem ax.later (h:ax w F p s S c) (a:bW w w'):ax w' F p s S c:=h.au (aa.ah (λ_=>False) a) (λ_ _ h=>h)
theorem ax.boxed (h:ax w F p s S c) (o:Obj):ax (w.alloc o) F p s S c:=h.later ((bi w.heap.size w).alloc (bP _) o)
theorem ax.mono (h:ax w F p s S c) (a:∀k,F k->G k) (b:∀k,G k->k<w.heap.size):ax w G p s S c:=by obtain⟨r,h,d⟩:=h;exact⟨r,h.mono a b,d⟩
theorem ax.more (h:ax w' F p s S c):ax w' (more F w w') p s S c:=by obtain⟨r,h,a⟩:=h;exact⟨r,h.more,a⟩
theorem pH (h:ax w F p s S c):Calls prog 47 #[pQ p] w λe w'=>e= .returned (iV s)/\w'=w:=Go.Proofs.YtenlkgicpllbhaaGreat.pH h.old
theorem yU (h:ax w F p s S c):Calls prog 35 #[pQ p] w λe w'=>e= .returned (.bool (S.fuse == 0))/\w'=w:=Go.Proofs.YtenlkgicpllbhaaGreat.yU h.old
theorem vV (h:ax w F p s S c):Calls prog 22 #[pQ p] w λe w'=>e= .returned (iV S.life)/\w'=w:=Go.Proofs.YtenlkgicpllbhaaGreat.vV h.old
theorem zB (h:ax w F p s S c):Calls prog 48 #[pQ p] w λe w'=>e= .returned (iV (wrap64 (S.life+1)))/\ax w' F p s S.take c/\aa F w w':=by
 obtain⟨r,h,d⟩:=h;refine(UK h).mono ?_;rintro e w' ⟨rfl,a,b⟩;exact⟨rfl,⟨r,a,d⟩,b⟩
theorem ot (h:ax w F p s S c) (x:Int) (a:S.fuse=0):Calls prog 39 #[pQ p,iV x] w λe w'=>e= .returned (.tuple #[.slice none 0 0,iV 3])/\w'=w:=Go.Proofs.YtenlkgicpllbhaaGreat.ot h.old x a
theorem zC (h:ax w F p s S c) (k:Nat) (i:k<s) (aT:S.puts.length+1<=4000000000000) (g:S.fuse≠0):
  Calls prog 39 #[pQ p,iV (k:Int)] w λe w'=>∃v,e= .returned (.tuple #[v,iV 0])/\Out w.heap.size w' (S.now k) v/\ax w' F p s S (c+1)/\aa F w w':=by
 obtain⟨r,h,j⟩:=h;have a:=tt h (k:Int) aT;rw [QI (S:=S.DO r) g i] at a;refine a.mono ?_;rintro e w' ⟨v,rfl,b,d,f⟩;exact⟨v,rfl,b,⟨_,d,j.read⟩,f⟩
theorem D2 (h:ax w F p s S c) (x:Int) (a:Option Addr) (n k:Nat) (l:List Int) (i:Src w a n l) (aT:S.puts.length+1<=4000000000000):
  Calls prog 51 #[pQ p,iV x, .slice a n k] w λe w'=>e= .returned (iV (S.wr s x n l).1)/\ax w' (Go.Proofs.YtenlkgicpllbhaaGreat.more F w w') p s (S.wr s x n l).2 c/\aa F w w':=by
 obtain⟨r,h,g⟩:=h;have b:=uQ h x a n k l i aT;rw [QK] at b;refine fk b λw' d f=>?_;exact⟨rfl,⟨r,d,g⟩,f⟩
theorem vg (h:ax w F p s S c) (aT:S.puts.length+1<=4000000000000):
  Calls prog 52 #[pQ p] w λe w'=>e= .returned (iV (S.fl s).1)/\ax w' F p s (S.fl s).2 c/\aa F w w':=by
 obtain⟨r,h,f⟩:=h;have a:=Dc h aT;rw [QL] at a;refine fk a λw' b d=>?_;exact⟨rfl,⟨r,b,f⟩,d⟩
theorem Zl (h:ax w F p s S c) (aT:S.puts.length+1<=4000000000000) (a:Option Addr) (n k:Nat) (l:List P3) (Dt:kS w a n l) (g:n<=140737488355328) (f:∀x,a=some x->¬F x.block):
  Calls prog 28 #[pQ p, .slice a n k] w λe w'=>e= .returned (.tuple #[])/\ax w' F p s (S.il s l) c/\aa F w w':=by
 obtain⟨r,h,i⟩:=h;refine(P0 vL vM h (by show S.puts.length+1<=_;omega) a n k l Dt g f).mono ?_;rintro e w' ⟨rfl,b,d⟩;exact⟨rfl,⟨r,b,i⟩,d⟩
theorem JO (h:ax w F p s S c):Calls prog 33 #[pQ p] w λe w'=>∃g c,e= .returned (.slice (some (aD g 0)) (s*512) c)/\w.heap.size<=g/\ay w' 5 g c (bs S.im)/\bW w w':=Go.Proofs.YtenlkgicpllbhaaGreat.JO h.old
theorem qQ (h:ax w F p s S c) (aT:S.puts.length<=140737488355328) (b:c<4611686018427387904):Calls prog 37 #[pQ p] w λe w'=>∃r:Nat,e= .returned (.agg #[iV (r:Int),iV S.writes,iV S.flushes,iV S.refused,iV (S.puts.length:Int)])/\r<=c/\ax w' F p s S r/\bW w w':=by
 obtain⟨r,h,d⟩:=h;have DA:=d b;obtain⟨k,rfl⟩:∃k:Nat,r=(k:Int):=⟨r.toNat,by omega⟩;refine(Je p s F _ w h aT).mono ?_;rintro e w' ⟨rfl,a⟩;exact⟨k,rfl,by omega,ax.later ⟨_,h,λ_=>by omega⟩ a,a⟩
theorem Rw (S:DS) (r:Int) (s f:Nat) (num:Int) (a:S.fuse≠0):yS (S.DO r) s f num=((cW S s f num).1,(cW S s f num).2.DO (wrap64 (wrap64 (r+1)+1))):=by
 unfold yS cW;rw [aA a];simp only [Va];have e:(S.DO r).read.read=S.DO (wrap64 (wrap64 (r+1)+1)):=rfl;simp only [e,QK];split
 .rfl
 .split
  .rfl
  .simp only [QL]
theorem Vz (h:ax w F p s S c) (f:Nat) (n:Int) (aT:S.puts.length+1<=4000000000000) (d:S.fuse≠0) (i:f+1<s) (aq:Bytes (S.now f)) (aW:Bytes (S.now (f+1))):
  Calls prog 152 #[kw p f n] w λe w'=>e= .returned (.tuple #[iV ((gU (S.now f) (S.now (f+1))).1:Int),iV ((gU (S.now f) (S.now (f+1))).2.1:Int),iV ((gU (S.now f) (S.now (f+1))).2.2:Int)])/\ax w' F p s S (c+2)/\aa F w w':=by
 obtain⟨r,h,g⟩:=h;refine(JN h f n aT d i aq aW).mono ?_;rintro e w' ⟨rfl,a,b⟩;exact⟨rfl,⟨_,a,g.read.read⟩,b⟩
theorem tI (h:ax w F p s S c) (f n:Int):Calls prog 103 #[kw p f n] w λe w'=>e= .returned (iV (cq S s f n))/\bW w w':=Go.Proofs.YtenlkgicpllbhaaGreat.tI h.old f n
end
theorem Ki {w:World} {F:Nat->Prop} {p s c:Nat} {S:DS} (h:ax w F p s S c) (f:Nat) (n:Int) (E T:Int) (aT:S.puts.length+1<=4000000000000) (a:S.fuse=0):
  Calls prog 105 #[kw p f n,iV E,iV T] w λe w'=>e= .returned (iV 3)/\ax w' F p s S c/\aa F w w':=by
 obtain⟨r,h,d⟩:=h;go_in;go_wp2_with fail;refine(Ng (h.boxed (.cells #[.pointer (some ⟨p,0,none⟩), .int .i64 f, .int .i64 n] 144)) f n aT a).mono ?_;rintro e w1 ⟨rfl,hd,b⟩;go_wp2;go_ret;exact⟨rfl,⟨r,hd,d⟩,(aa.boxed (w:=w) F (.cells #[.pointer (some ⟨p,0,none⟩), .int .i64 f, .int .i64 n] 144)).trans b (λ_ h=> .inl h)⟩
theorem Kj {w:World} {F:Nat->Prop} {p s c:Nat} {S:DS} (h:ax w F p s S c) (f:Nat) (n:Int) (E T:Nat) (i:E<=1073741824) (j:T<=1073741824) (aT:S.puts.length+2<=4000000000000) (l:f+1<s) (aq:Bytes (S.now f)) (aW:Bytes (S.now (f+1))):
  Calls prog 105 #[kw p f n,iV (E:Int),iV (T:Int)] w λe w'=>e= .returned (iV (cW S s f ((E:Int)*4294967296+T)).1)/\ax w' (more F w w') p s (cW S s f ((E:Int)*4294967296+T)).2 (c+2)/\aa F w w':=by
 by_cases b:S.fuse=0
 .refine(Ki h f n E T (by omega) b).mono ?_;rintro e w' ⟨rfl,a,d⟩;unfold cW;rw [aE b];exact⟨rfl,a.more.le (by omega),d⟩
 .obtain⟨r,h,k⟩:=h;have a:=Nj h f n E T i j aT b l aq aW;rw [(Rw S r s f ((E:Int)*4294967296+T) b)] at a;refine fk a λw' d g=>?_;exact⟨rfl,⟨_,d,k.read.read⟩,g⟩
end B
end
section
namespace B
theorem ax.from {w:World} {F:Nat->Prop} {p s c:Nat} {S:DS} (h:ax w2 (Go.Proofs.YtenlkgicpllbhaaGreat.more F w1 w2) p s S c) (b:∀k,F k->k<w.heap.size) (d:w.heap.size<=w1.heap.size) (e:w1.heap.size<=w2.heap.size):ax w2 (Go.Proofs.YtenlkgicpllbhaaGreat.more F w w2) p s S c:=
 h.mono (λk a=>by rcases a with a|a;exact .inl a;exact .inr ⟨by omega,a.2⟩) (cG b (by omega))
theorem ax.wide {w:World} {F:Nat->Prop} {p s c:Nat} {S:DS} (h:ax w2 (Go.Proofs.YtenlkgicpllbhaaGreat.more F w w1) p s S c) (b:∀k,F k->k<w.heap.size) (d:w.heap.size<=w1.heap.size) (e:w1.heap.size<=w2.heap.size):ax w2 (Go.Proofs.YtenlkgicpllbhaaGreat.more F w w2) p s S c:=
 h.mono (λk a=>by rcases a with a|a;exact .inl a;exact .inr ⟨a.1,by omega⟩) (cG b (by omega))
section
variable {w:World} {F:Nat->Prop} {p s l cR:Nat} {S:DS} {L:LG}
theorem tJ (h:ax w F p s S cR) (a:cQ w l p L):
  Calls prog 112 #[pQ l] w λe w'=>e= .returned (.bool (L.dead S))/\bW w w':=Go.Proofs.YtenlkgicpllbhaaGreat.tJ h.old a
theorem jp (h:ax w F p s S cR) (a:cQ w l p L):
  Calls prog 161 #[pQ l] w λe w'=>e= .returned (iV (L.bd S))/\bW w w':=Go.Proofs.YtenlkgicpllbhaaGreat.jp h.old a
theorem zD (h:ax w F p s S cR) (b:cQ w l p L) (j:¬F l) (aT:S.puts.length+1<=4000000000000):
  Calls prog 128 #[pQ l] w λe w'=>e= .returned (iV (L.sync S s).1)/\ax w' F p s (L.sync S s).2 cR/\cQ w' l p L/\aa F w w':=by
 have g:=jp h b;have f:=b;have c:=h;unfold LG.sync;generalize L.bd S=U at*;go_in;by_cases q:U=0
 .subst q;rw [aA (by decide)];go_wp2_with fail;refine bE g λw1 a=>?_;have b:=f.later a;have k:=b.c0;go_wp2_with fail;refine(vg (c.later a) aT).mono ?_;rintro e m ⟨rfl,hd,i⟩;go_wp2;go_ret;exact⟨rfl,aF hd (aF (b.au i j) ((aa.ah F a).trans i (λ_ h=> .inl h)))⟩
 .rw [aE q];have d:(U == 0)=false:=by rw [eG];exact q
  go_wp2_with fail;refine bE g λw1 a=>?_;go_wp2;go_ret;exact⟨rfl,aF (c.later a) (aF (f.later a) (aa.ah F a))⟩
end
end B
end
section
abbrev Pg (p l m:Nat) (y:LY) (busy:Bool):Array Value:= #[pQ p,pQ l,iV (y.log:Int),iV (y.home:Int),iV (y.blocks:Int),iV (y.nodes:Int),iV (y.data:Int), .map (some m), .bool busy]
def mZ (w:World) (q p l m:Nat) (y:LY) (busy:Bool):Prop:=w.heap[q]? =some (.cells (Pg p l m y busy) 95 (0,0))
section
variable {w w':World} {q p l m:Nat} {y:LY} {busy:Bool}
theorem mZ.lt (h:mZ w q p l m y busy):q<w.heap.size:=aw h
theorem mZ.au (h:mZ w q p l m y busy) (k:aa G w w') (a:¬G q):mZ w' q p l m y busy:=(k.block q h.lt a).trans h
theorem mZ.later (h:mZ w q p l m y busy) (a:bW w w'):mZ w' q p l m y busy:=(a.block q h.lt).trans h
theorem mZ.c0 (h:mZ w q p l m y busy):w.cell? (aD q 0)=some (pQ p):=aL h
theorem mZ.c1 (h:mZ w q p l m y busy):w.cell? (aD q 1)=some (pQ l):=bD h
theorem mZ.c3 (h:mZ w q p l m y busy):w.cell? (aD q 3)=some (iV (y.home:Int)):=fI h
theorem mZ.c4 (h:mZ w q p l m y busy):w.cell? (aD q 4)=some (iV (y.blocks:Int)):=gz h
theorem mZ.c7 (h:mZ w q p l m y busy):w.cell? (aD q 7)=some (.map (some m)):=ri h
theorem mZ.c8 (h:mZ w q p l m y busy):w.cell? (aD q 8)=some (.bool busy):=Dg h
end
theorem Gx {w:World} {q p l m:Nat} {y:LY} {a:Bool} (h:mZ w q p l m y a) (b:Nat) (d:y.home+b<=1000000):
  Calls prog 160 #[pQ q,iV (b:Int)] w λe w'=>e= .returned (iV ((y.home:Int)+(b:Int)))/\w'=w:=by
 have c:=h.c3;go_in;go_wp2;go_ret;exact⟨rfl,rfl⟩
theorem jt (S:DS) (s h:Nat) (q:Nat×List Int) (a:CM):sbring S s h (q :: a)=if (S.wr s ((h+q.1:Nat):Int) 512 q.2).1≠0 then S.wr s ((h+q.1:Nat):Int) 512 q.2 else sbring (S.wr s ((h+q.1:Nat):Int) 512 q.2).2 s h a:=rfl
theorem fi (S:DS) (s h:Nat):∀(a b:CM),sbring S s h (a ++ b)=if (sbring S s h a).1≠0 then sbring S s h a else sbring (sbring S s h a).2 s h b
 | [],b=>by simp [sbring]
 |q :: qs,b=>by
  rw [List.cons_append,jt,jt];by_cases e:(S.wr s ((h+q.1:Nat):Int) 512 q.2).1≠0
  .rw [aE e,aE e,aE e]
  .rw [aA e,aA e];exact fi _ s h qs b
theorem eA (S:DS) (s h:Nat):∀(ms:CM),(sbring S s h ms).2.puts.length<=S.puts.length+ms.length:=λms=>by
 induction ms generalizing S with
 |nil=>exact bP _
 |cons q c a=>
  have b:=i9 S s ((h+q.1:Nat):Int) 512 q.2;unfold sbring;split
  .rw [List.length_cons];omega
  .have:=a (S.wr s ((h+q.1:Nat):Int) 512 q.2).2;rw [List.length_cons];omega
theorem rG {w:World} {p c q l m:Nat} {y:LY} {G:Bool} (hd:B.ax w F p s S c) (hs:mZ w q p l m y G) (C:Ch w m ms) (hq:¬F q) (TW:¬F m) (b:∀x∈ms,y.home+x.1<s) (aT:S.puts.length+3000<=4000000000000):
  Calls prog 111 #[pQ q] w λe w'=>e= .returned (iV (sbring S s y.home ms).1)/\B.ax w' (more F w w') p s (sbring S s y.home ms).2 c/\aa F w w':=by
 obtain⟨h1,km,I,dh,Mb⟩:=ey (wd C) C.small C.len C.ok hd.ok.hi;have mb:(CM.keys ms).length=ms.length:=by simp [CM.keys]
 rw [mb] at h1;obtain⟨Pf,M,ib,HD,HS,HM⟩:=kQ je hs.c7 (yh hd.lt) (yh hd) (yh hs) (yh C);clear hd hs C;go_in;go_wp2_with fail;refine h1.mono ?_;rintro e w1 ⟨a,ca,rfl,aY,aq⟩;obtain⟨dr,Vx,Rx,oN,P,cN⟩:=kQ aq.size (yh aY) (yh (HD.o.later aq)) (yh (HS.o.later aq)) (yh (HM.o.later aq)) (yh aq);clear h1 aY aq HD HS HM M;go_wp2;go_loopw [13] (λi wr=>∃j:Nat,j<=ms.length/\i=iV (j:Int)/\(sbring S s y.home (ms.take j)).1=0/\B.ax wr (more F w1 wr) p s (sbring S s y.home (ms.take j)).2 c/\aa F w1 wr) (λi _=>ms.length-(intOf i).toNat);case atStart=>exact⟨0,dU _,rfl,rfl,Rx.o.more,aa.refl _ _⟩
 case round=>
  clear Rx;obtain⟨j,hj,rfl,J,hd,fP⟩:=hrel;have W:=fP.size;by_cases bm:j<ms.length
  .have cw:(j:Int)<(ms.length:Int):=(by omega);have Xc:(0:Int)<=(j:Int):=(by omega);obtain⟨g,rfl,hg,X⟩:=Vx.o (by simp [CM.keys];intro e;rw [e] at bm;simp at bm);have U:¬F g:=λT=>by have:=ib.o _ T;omega
   have H:=(X.agree (fP.block g X.lt U)).cell (D1 bm);have nH:=I _ (List.getElem_mem bm);have eF:=b _ (List.getElem_mem bm);have kP:=oN.o.au fP hq;obtain⟨M,bt,aU,dI⟩:=cM kP.c7 (eQ wr nH.2.1) (eJ nH.2.1) (cB (ms[j]).2);have pX:(bs (ms[j]).2).length=512:=(by rw [bs,List.length_map,nH.2.1]);have sB:=eA S s y.home (ms.take j);have fZ:sbring S s y.home (ms.take (j+1))=(sbring S s y.home (ms.take j)).2.wr s ((y.home+(ms[j]).1:Nat):Int) 512 (ms[j]).2:=by
    rw [List.take_succ_eq_append_getElem bm,fi,aA (λh=>h J)];simp only [sbring];split
    .rfl
    .rename_i h;generalize DS.wr _ _ _ _ _=Z at*;rw [<-(Decidable.byContradiction h)]
   have mO:sbring S s y.home ms=if (sbring S s y.home (ms.take (j+1))).1≠0 then sbring S s y.home (ms.take (j+1)) else sbring (sbring S s y.home (ms.take (j+1))).2 s y.home (ms.drop (j+1)):=by
    conv=>lhs;rw [<-List.take_append_drop (j+1) ms]
    exact fi S s y.home _ _
   obtain⟨r,Fh⟩:=bQ ((wr.alloc (.cells bh 101)).setCells wr.heap.size 0 (bs (ms[j]).2));have wg:bW wr r:=(by rw [Fh];exact bt.2.1);have aZ:jX r 101 wr.heap.size (ms[j]).2:=(by rw [Fh];exact bt.1);have fJ:Src r (some (aD wr.heap.size 0)) 512 (ms[j]).2:=by
    have:=aZ.src (o:=0) (n:=512) (by omega);rwa [List.drop_zero,nh (by omega)] at this
   have t:=kP.later wg;have Gy:=λ(wx:World) (O:bW r wx)=>Gx (t.later O) (ms[j]).1 (by omega);have Zm:=λ(wx:World) (O:bW r wx)=>B.D2 ((hd.later wg).later O) ((y.home+(ms[j]).1:Nat):Int) (some (aD wr.heap.size 0)) 512 512 (ms[j]).2 (fJ.later O) (by rw [List.length_take] at sB;omega);rw [<-fZ,Int.natCast_add] at Zm;have L:=t.c0;obtain⟨A,N⟩:=bQ (bs (ms[j]).2);rw [<-N] at aU dI pX Fh;have Zj:(Instr.lookup 93 (.map (some m)) (iV ((ms[j]).1:Int)) false).run prog wr= .ok (.agg A.toArray) wr:=(by rw [N];exact((P.o.au fP TW).read (ms[j]).1 (CM.get_of_mem dh (List.getElem_mem bm))));have dZ:=bt.2.2;rw [<-N] at dZ;obtain⟨bR,E,HH,z,u,HK,HE⟩:=nW (all_oneCell_toArray dI) (yh t) (yh Gy) (yh Zm) (yh wg) (yh fP) (yh mO);clear bt X hd fP kP t wg aZ fJ N nH Gy Zm fZ mO sB J;obtain⟨Y,R⟩:=bQ (sbring S s y.home (ms.take (j+1)));rw [<-R] at z HE;have HY:=yh R;clear R;generalize (ms[j]).1=K at*;generalize bh=Z at*;go_wp2_with (refine wpList_store_mid rfl 101 _ _ rfl wr.heap.size 0 A.toArray rfl rfl ?h1 ?h2 bR ?_);case h1=>first|simpa using dZ|(rw [pX] at dZ;simpa using dZ)
   case h2=>simpa using aU
   have Ry:=(yh Fh).out;subst Ry;have Kk:¬more F w1 wr q:=λh=>by
    rcases h with h|h
    .exact hq h
    .have:=oN.o.lt;omega
   have Mi:Yh (∀k,F k->k<w1.heap.size):=λk T=>by have:=ib.o k T;omega
   generalize Ry:(wr.alloc (.cells Z 101)).setCells wr.heap.size 0 A=r at*;clear Ry;have hzS:=u.o.size;by_cases D:Y.1=0
   .have dY:(Y.1 != 0)=false:=(by rw [D];rfl);go_region_held3 (λw'=>w'.cell? (aD q 0)=some (pQ p))
     (first|exact L|exact Uf)
     (first
      |(go_at_call 160;refine(HH.o _ (ai (bi _ _))).mono ?_;rintro e wy ⟨rfl,rH⟩;have mP:=rH.symm;subst mP;clear rH)
      |(go_at_call 51;refine(z.o _ (ai (bi _ _))).mono ?_;rintro e w5 ⟨rfl,jy,dX⟩;have Uf:=((E.o.later (ai (bi _ _))).au dX Kk).c0))
    have qE:r.heap.size<=w5.heap.size:=dX.size;have d:=jy.mono (λk b=>by
     rcases b with (b|b)|b
     .exact .inl b
     .exact .inr ⟨b.1,by omega⟩
     .have:r.heap.size<=k:=b.1;exact .inr ⟨by omega,b.2⟩) (cG (F:=F) (w:=w1) Mi.o (by omega))
    have f:=(HK.o.trans (aa.ah (λ_=>False) (ai u.o)) (λ_ h=>h.elim)).trans dX (λk b=>by
     rcases b with b|b
     .exact .inl b
     .exact .inr b.1)
    obtain⟨v,Ug⟩:=bL (aF d f) D;clear jy dX Uf d f D L M H;go_wp2;go_roundw;case rel=>exact⟨j+1,by omega,by go_num,by rw [<-HY.o];exact Ug.o,by rw [<-HY.o];exact v.o.1,v.o.2⟩
    case measure=>simp [intOf];omega
   .have dY:(Y.1 != 0)=true:=(by rw [fT];exact D);go_region_held3 (λw'=>w'.cell? (aD q 0)=some (pQ p))
     (first|exact L|exact Uf)
     (first
      |(go_at_call 160;refine(HH.o _ (ai (bi _ _))).mono ?_;rintro e wy ⟨rfl,rH⟩;have mP:=rH.symm;subst mP;clear rH)
      |(go_at_call 51;refine(z.o _ (ai (bi _ _))).mono ?_;rintro e w5 ⟨rfl,jy,dX⟩;have Uf:=((E.o.later (ai (bi _ _))).au dX Kk).c0))
    have qE:r.heap.size<=w5.heap.size:=dX.size;have d:=jy.mono (λk b=>by
     rcases b with (b|b)|b
     .exact .inl b
     .exact .inr ⟨b.1,by omega⟩
     .have:r.heap.size<=k:=b.1;exact .inr ⟨by omega,b.2⟩) (cG (F:=F) (w:=w1) Mi.o (by omega))
    have f:=(HK.o.trans (aa.ah (λ_=>False) (ai u.o)) (λ_ h=>h.elim)).trans dX (λk b=>by
     rcases b with b|b
     .exact .inl b
     .exact .inr b.1)
    have Q:=HE.o;rw [aE D] at Q;obtain⟨v,HEq⟩:=bL (aF (d.from ib.o dr (by omega)) ((aa.ah F cN.o).trans f (λ_ h=> .inl h))) Q;clear jy dX Uf d f D L M H Q;go_wp2;go_ret;exact⟨by rw [HEq.o];rfl,by rw [HEq.o];exact v.o.1,v.o.2⟩
  .have cw:¬(j:Int)<(ms.length:Int):=(by omega);obtain rfl:j=ms.length:=(by omega);rw [List.take_length] at J hd;obtain⟨HZ,v⟩:=bL J (aF (hd.from ib.o dr W) ((aa.ah F cN.o).trans fP (λ_ h=> .inl h)));clear hd fP J;go_wp2;go_ret;exact⟨by rw [HZ.o];rfl,v.o⟩
end
theorem xH (w:World):Calls prog 157 #[.bool true] w λe w'=>e= .returned (.tuple #[])/\w'=w:=by
 go_in;go_wp2
 go_end0
 exact⟨rfl,rfl⟩
abbrev CF:List PanicEntry:= [{v:= .iface 49 (iV 6),recovered:=false}]
theorem xI (w:World):Calls prog 157 #[.bool false] w λe w'=>e= .panicked CF/\w'=w:=by
 go_in;go_wp2;exact⟨rfl,rfl,rfl⟩
def Ph (Av:Nat->Prop) (w:World) (rb:Nat) (l:List Int):Prop:=∃a n c,w.heap[rb]? =some (.cells #[.slice a n c] 192 (0,0))/\Src w a n l/\n<=c/\c<=9223372036854775807/\n<=1000000/\∀x,a=some x->0<n->x.block≠rb/\Av x.block
theorem NQ (a b o n c k:Nat) (w:World) (h:w.heap[a]? =some (.cells #[.slice (some ⟨b,o,none⟩) n c] 192 (0,0))) (u:k<=n) (v:n<=c) (i:n<=1000000) (mY:c<=9223372036854775807):
  Calls prog 158 #[pQ a,iV (k:Int)] w λe w'=>∃a',e= .returned (.slice (some (aD b o)) k c)/\w'.heap[a]? =some (.cells #[.slice a' (n-k) (c-k)] 192 (0,0))/\(k<c->a'=some ⟨b,o+k,none⟩)/\aa (λj=>j=a) w w':=by
 have s:=aL h;have t:=ae h 0;have ac4:(k:Int)<=(n:Int):=by omega
 have m:(0:Int)<=(k:Int):=by omega
 have p:(k:Int)<=(c:Int):=by omega
 have r:(n:Int)<=(c:Int):=by omega
 have g:=xH;have H:=h;go_in;by_cases xJ:k<c
 .have q:¬c=k:=by omega
  have f:((w.setCell ⟨a,0,none⟩ (.slice (some ⟨b,o+k,none⟩) (n-k) (c-k))).heap[a]? =some (.cells #[.slice (some ⟨b,o+k,none⟩) (n-k) (c-k)] 192 (0,0))):=(heap_setCell_same _ _ 0 _ _ _ H).trans (by simp);have d:=(aJ (F:=λj=>j=a) w rfl 0 (.slice (some ⟨b,o+k,none⟩) (n-k) (c-k)));go_wp2_with (go_at_call 157;refine(g _).mono ?_;rintro e l ⟨rfl,rH⟩;have mP:=rH.symm;subst mP;clear rH);go_ret;exact⟨_,rfl,f,λ_=>rfl,d⟩
 .obtain rfl:c=k:=by omega
  obtain rfl:n=c:=by omega
  have f:((w.setCell ⟨a,0,none⟩ (.slice (some ⟨b,o,none⟩) 0 0)).heap[a]? =some (.cells #[.slice (some ⟨b,o,none⟩) (n-n) (n-n)] 192 (0,0))):=by
   rw [Nat.sub_self];exact(heap_setCell_same _ _ 0 _ _ _ H).trans (by simp)
  have d:=(aJ (F:=λj=>j=a) w rfl 0 (.slice (some (aD b o)) 0 0));go_wp2_with (go_at_call 157;refine(g _).mono ?_;rintro e l ⟨rfl,rH⟩;have mP:=rH.symm;subst mP;clear rH);go_ret;exact⟨_,rfl,f,λh=>by omega,d⟩
theorem Gz {l:List Int} (h:Ph Av w rb l) (k:Nat) (eH:1<=k) (u:k<=l.length):
  Calls prog 158 #[pQ rb,iV (k:Int)] w λe w'=>∃b o c,e= .returned (.slice (some (aD b o)) k c)/\Src w' (some (aD b o)) k (l.take k)/\b≠rb/\Ph Av w' rb (l.drop k)/\aa (λj=>j=rb) w w':=by
 obtain⟨a,n,c,h0,g,XA,mY,NR,dG⟩:=h;have A9:=g.1;obtain⟨b,o,rfl⟩:=cT g (by omega);have dO:b≠rb:=(dG _ rfl (by omega)).1;have f:Av b:=(dG _ rfl (by omega)).2;refine(NQ rb b o n c k w h0 (by omega) XA NR mY).mono ?_;rintro e w' ⟨q,rfl,r,p,xq⟩;have d:=g.nB xq (λy s _ e=>by cases s;exact dO e);refine⟨b,o,c,rfl,?_,dO,⟨q,n-k,c-k,r,?_,by omega,by omega,by omega,λx m v=>?_⟩,xq⟩
 .have:=d.sub 0 k (by omega);simpa using this
 .by_cases e:k<c
  .rw [p e];have:=d.sub k (n-k) (by omega);rwa [nh (by rw [List.length_drop];omega)] at this
  .refine⟨by rw [List.length_drop];omega,λ_=>by omega,λx m i t=>by omega⟩
 .rw [p (by omega)] at m;cases m;exact⟨dO,f⟩
theorem GA {l:List Int} (h:Ph Av w rb l) (k:Nat) (i:l.length<k) (b:k<=1000):
  Calls prog 158 #[pQ rb,iV (k:Int)] w λe w'=>e= .panicked CF/\w'=w:=by
 obtain⟨a,n,c,h0,f,XA,mY,NR,dG⟩:=h;have A9:=f.1;have g:=aL h0;have ac4:¬(k:Int)<=(n:Int):=by omega
 have d:=xI;go_in;go_wp2_with (go_at_call 157;refine(d _).mono ?_;rintro e j ⟨rfl,rH⟩;have mP:=rH.symm;subst mP;clear rH);exact⟨rfl,rfl,rfl⟩
theorem zE {l:List Int} (h:Ph Av w rb l) (k:Nat) (a:l.length<k) (ji:k<=1000):
  Calls prog 156 #[pQ rb,iV (k:Int)] w λe w'=>e= .panicked CF/\w'=w:=by
 go_in;go_wp2_with fail;refine(GA h k a ji).mono ?_;rintro e w1 ⟨rfl,b⟩;have ez:=b.symm;subst ez;exact⟨rfl,rfl,rfl⟩
theorem zG {a:List Int} (h:Ph Av w rb a) (kv:Bytes a) (k:Nat) (eH:1<=k) (dV:k<=4) (C:k<=a.length):
  Calls prog 156 #[pQ rb,iV (k:Int)] w λe w'=>e= .returned (iV ((le (a.take k):Nat):Int))/\Ph Av w' rb (a.drop k)/\aa (λj=>j=rb) w w':=by
 have n:=Gz h k eH C;clear h;go_in;go_wp2_with fail;refine n.mono ?_;rintro e w1 ⟨b,o,c,rfl,s,_,q,fP⟩;have u:=yh (aF q fP);have d:=kv.take k;have D:(a.take k).length=k:=by rw [List.length_take];omega
 have m:Yh (∀i,i<k->w1.cell? ⟨b,o+i,none⟩=some (.int .u8 ((a.take k).getD i 0))):=λi z=>by
  have:=s.2.2 _ rfl i z;rwa [aK] at this
 obtain⟨l,g⟩:=bQ (a.take k);rw [<-g] at d D m;have t:=yh g;clear g;clear n q fP s;go_wp2;go_loopw [5,12] (λr i wr=>∃j:Nat,j<=k/\i=iV j/\wr=w1/\r=iV ((le (l.take j):Nat):Int)) (λ_ i _=>k-(intOf i).toNat);case atStart=>exact⟨0,dU _,rfl,rfl,by simp [le]⟩
 case round=>
  obtain⟨j,F,rfl,NS,rfl⟩:=hrel;subst NS;by_cases bm:j<k
  .have cw:(j:Int)<(k:Int):=(by omega);have y:=m.o j bm;obtain⟨x,E,jA⟩:∃x:Nat,l.getD j 0=(x:Int)/\x<256:=by
    have:=d.getD j;exact⟨(l.getD j 0).toNat,by omega,by omega⟩
   have io:=lq (l:=l) (k:=j) (by omega);have p:le (l.take j)<2 ^ (8*j):=by
    have:=lg (d.take j);have e:(l.take j).length=j:=(by simp;omega);rwa [e] at this
   have f:le (l.take (j+1))<9223372036854775808:=Cq (d.take _) (by simp;omega);rw [E] at y io;simp only [Int.toNat_natCast] at io;rw [io] at f;have MV:=QJ (8*j) _ x p f;rw [<-io] at MV;have YP:((x:Int)*2 ^ (8*j))=((2 ^ (8*j)*x:Nat):Int):=(by rw [Int.natCast_mul,Int.natCast_pow,Int.mul_comm];rfl);have oS:((2 ^ (8*j)*x:Nat):Int)<9223372036854775808:=(by omega);generalize 2 ^ (8*j)*x=Y at*;generalize le (l.take j)=A at*;clear p f io;go_wp2;go_roundw;case rel=>exact⟨j+1,by omega,by go_num,trivial,by rw [<-(yh MV).out]⟩
   case measure=>simp [intOf];omega
  .have cw:¬(j:Int)<(k:Int):=(by omega);have v:l.take j=l:=nh (by omega);rw [v] at*;go_wp2;go_ret;exact⟨by rw [<-t.o];rfl,u.o⟩
theorem NT {c m:Nat} {y:LY} {a:Bool} {L:LG} (hd:B.ax w F p s S c) (i:mZ w q p l m y a) (g:cQ w l p L) (f:L.Ok s) (d:L.begun=true):
  Calls prog 58 #[pQ q] w λe w'=>e= .returned (.bool (L.dead S))/\bW w w':=by
 have b:=F9 hd.old g f;have n:((L.room S).2 == 3)=L.dead S:=by
  unfold LG.room LG.bd;cases yq:L.dead S
  .rw [aA (show¬false=true by decide),aE d,aA (λh=>h rfl)];rfl
  .rw [aE rfl,aE (by decide)];rfl
 have k:=i.c1;generalize (L.room S).2=E at*;generalize (L.room S).1=j at*;go_in;go_wp2_with fail;refine bE b λw1 aq=>?_;go_wp2;go_ret;exact⟨rfl,aq⟩
theorem qR (w:World):(w.alloc (.cells bh 101)).there w.heap.size 0 512:=cE (heap_alloc_new _ _) cI
theorem zH (a:Option Addr) (c:Nat) (w:World):(Instr.arrayAt 101 (.slice a 512 c)).run prog w= .ok (.pointer a) w:=by
 simp [Instr.arrayAt,run_underlying underlying101]
theorem j4 {w':World} (h:w.there g 0 n) (c:w'.heap[g]? =w.heap[g]?):w'.there g 0 n:=by
 intro j e;obtain⟨d,b⟩:=h j e;refine⟨?_,?_⟩
 .rw [World.cell?_of_block (w:=w) (w':=w') (a:=⟨g,0+j,none⟩) c];exact d
 .unfold World.frozen? at b⊢;rw [show w'.heap[g]? =w.heap[g]? from c];exact b
theorem D3 {m:Nat} {y:LY} {a:Bool} (i:mZ w q p l m y a) (g:Ch w m ov) (b:Nat) (f:CM.get ov b=some c):
  Calls prog 114 #[pQ q,iV (b:Int)] w λe w'=>e= .returned (.tuple #[cV c,iV 0])/\bW w w':=by
 have nH:=g.len _ (CM.get_mem f);have Pf:=je;have bK:bW w (w.alloc (.cells bh 101)):=(bi _ w).alloc (bP _) _;have r:=(i.later bK).c7;have gG:=(g.later bK).look b nH.1;rw [f] at gG;have bt:=eQ (w.alloc (.cells bh 101)) nH.2.1;rw [World.size_alloc] at bt;have aU:=eJ nH.2.1;have dI:=cB c;have pX:(bs c).length=512:=by rw [bs,List.length_map,nH.2.1]
 obtain⟨A,d⟩:=bQ (bs c);have sC:(Instr.lookup 93 (.map (some m)) (iV (b:Int)) true).run prog (w.alloc (.cells bh 101))= .ok (.tuple #[.agg A.toArray, .bool true]) (w.alloc (.cells bh 101)):=by rw [d];exact gG
 have A6:(((w.alloc (.cells bh 101)).alloc (.cells bh 101)).setCells (w.heap.size+1) 0 (bs c)).rangeAt (w.heap.size+1) 0 (bs c):=λj v n=>by
  have:=bt.1.news j v n;rwa [aK] at this
 rw [<-d] at aU dI pX bt A6;have Rz:=j4 (qR w) (bt.2.1.block _ (by simp));have pi:=yh (World.rangeAt_setCells_same _ w.heap.size 0 A (by rw [pX];exact Rz));have bR:=all_oneCell_toArray dI;have eM:=bK.trans (bt.2.1.mono (by omega));have jK:=yh (eM.trans ((aa.setCells (F:=λj=>j=w.heap.size) rfl A 0 _).below (λj s=>by omega) eM.size));have Kl:=bt.2.2;have k:=yh d;clear gG bt i g bK eM dI f nH d;generalize bh=Z at*;go_in;go_wp2_with (first|refine wpList_load_mid rfl 101 _ rfl (w.heap.size+1) 0 rfl A _ A6 underlying101 rfl aU ?_|refine wpList_store_mid rfl 101 _ _ rfl (w.heap.size+1) 0 A.toArray rfl rfl ?h1 ?h2 bR ?_|refine wpList_store_mid rfl 101 _ _ rfl w.heap.size 0 A.toArray rfl rfl ?h3 ?h4 bR ?_);case h1=>first|simpa using Kl|(rw [pX] at Kl;simpa using Kl)
 case h2=>simpa using aU
 case h3=>
  have e:A.toArray.size=512:=by simpa using pX
  rw [e];exact Rz
 case h4=>simpa using aU
 refine bodyPost_ret (results_cell_tmp (P:=prog) rfl _ _ w.heap.size A _ _ rfl rfl pi.out underlying101 rfl aU) rfl ⟨?_,jK.out⟩;show _=Ending.returned (.tuple #[.agg (bs c).toArray,iV 0]);rw [<-k.o];rfl
theorem Bz {m:Nat} {y:LY} {g:Bool} (hd:B.ax w F p s S cR) (D:mZ w q p l m y g) (J:Ch w m ov) (R:¬F q) (b:Nat) (i:b<2048) (I:CM.get ov b=none) (r:y.home+b<s) (O:S.fuse≠0) (aT:S.puts.length+1<=4000000000000):
  Calls prog 114 #[pQ q,iV (b:Int)] w λe w'=>e= .returned (.tuple #[cV (S.now (y.home+b)),iV 0])/\B.ax w' F p s S (cR+1)/\aa F w w':=by
 have Pf:=je;have Mb:=hd.ok.hi;have bK:bW w (w.alloc (.cells bh 101)):=(bi _ w).alloc (bP _) _;have H:=(D.later bK).c7;have gG:=(J.later bK).look b i;rw [I] at gG;have sC:(Instr.lookup 93 (.map (some m)) (iV (b:Int)) true).run prog (w.alloc (.cells bh 101))= .ok (.tuple #[.agg bh, .bool false]) (w.alloc (.cells bh 101)):=gG;have bt:=eQ (w.alloc (.cells bh 101)) (bB 512);rw [World.size_alloc] at bt;have zI:=eJ (bB 512);have GB:=all_oneCell_toArray (cB (zs 512));have vh:=bt.2.2;have RA:(bs (zs 512)).toArray=bh:=rfl;obtain⟨f,Zn⟩:=bQ (bs (zs 512));rw [<-Zn] at bt zI GB vh RA;have C:f.length=512:=by rw [Zn,bs,List.length_map,bB]
 obtain⟨c,RB⟩:=bQ (((w.alloc (.cells bh 101)).alloc (.cells bh 101)).setCells (w.heap.size+1) 0 f);have VA:bW w c:=by rw [RB];exact bK.trans (bt.2.1.mono (by omega))
 have RC:c.there w.heap.size 0 512:=by rw [RB];exact j4 (qR w) (bt.2.1.block _ (by simp))
 have Zo:w.heap.size<c.heap.size:=by
  have:=bt.2.1.size;rw [RB];rw [World.size_alloc] at this;omega
 have a:=D.later VA;have G:=a.c0;have Gy:=λ(wx:World) (i:bW c wx)=>Gx (a.later i) b (by omega);have vi:=λ(wx:World) (i:bW c wx)=>B.zC ((hd.later VA).later i) (y.home+b) r aT O;rw [Int.natCast_add] at vi;obtain⟨M,VB,z,x,t,ib,Zp,d⟩:=ahq Gy vi a RC VA hd.lt RB (br hd.ok (y.home+b) r);clear gG bt D J bK VA hd a Gy vi RC I RB Zn;rw [<-RA] at Pf H sC vh Zp;clear RA;go_in;go_wp2_with (refine wpList_store_mid rfl 101 _ _ rfl (w.heap.size+1) 0 f.toArray rfl rfl ?h1 ?h2 GB ?_);case h1=>first|simpa using vh|(rw [C] at vh;simpa using vh)
 case h2=>simpa using zI
 have Zq:=Zp.o;subst Zq;generalize NS:((w.alloc (.cells f.toArray 101)).alloc (.cells f.toArray 101)).setCells (w.heap.size+1) 0 f=c at*;clear NS sC H vh Zp;go_region_held3 (λw'=>w'.cell? (aD q 0)=some (pQ p))
  (first|exact G|exact Uf)
  (first
   |(go_at_call 160;refine(M.o _ (ai (bi _ _))).mono ?_;rintro e U ⟨rfl,rH⟩;have mP:=rH.symm;subst mP;clear rH)
   |(go_at_call 39;refine(VB.o _ (ai (bi _ _))).mono ?_;rintro e w5 ⟨v,rfl,Q,jy,dX⟩;have Uf:=((z.o.later (ai (bi _ _))).au dX R).c0))
 obtain⟨T,N,rfl,zJ,Zr⟩:=Q;rw [d.o] at zJ⊢;obtain⟨E,K,rfl⟩:=cT zJ (by omega);have YV:=zH (some (aD E K)) N;have A6:=lF zJ;have aU:=eJ d.o;have dI:=cB (S.now (y.home+b));obtain⟨A,n⟩:=bQ (bs (S.now (y.home+b)));rw [<-n] at A6 aU dI;have pX:A.length=512:=by rw [n,bs,List.length_map,d.o]
 have bR:=all_oneCell_toArray dI;have Km:¬F w.heap.size:=λh=>by have:=ib.o _ h;omega
 have RD:=j4 x.o (dX.block _ Zo Km);have pi:=yh (World.rangeAt_setCells_same w5 w.heap.size 0 A (by rw [pX];exact RD));have eF:=aa.setCells (F:=λj=>j=w.heap.size) rfl A 0 w5;have u:=yh (jy.au eF (λk r e=>Km (e▸r)));obtain⟨T8,L⟩:=bL ((((aa.ah F t.o).trans (aa.ah (λ_=>False) (ai (bi c.heap.size c))) (λ_ h=>h.elim)).trans dX (λ_ h=> .inl h)).trans eF (λk e=> .inr (by omega)):aa F w (w5.setCells w.heap.size 0 A)) n;clear jy dX zJ Zr G Uf dI eF n;go_wp2_with (first|refine wpList_load_mid rfl 101 _ rfl E K rfl A _ A6 underlying101 rfl aU ?_|refine wpList_store_mid rfl 101 _ _ rfl w.heap.size 0 A.toArray rfl rfl ?h3 ?h4 bR ?_);case h3=>
  have e:A.toArray.size=512:=by simpa using pX
  rw [e];exact RD
 case h4=>simpa using aU
 refine bodyPost_ret (results_cell_tmp (P:=prog) rfl _ _ w.heap.size A _ _ rfl rfl pi.out underlying101 rfl aU) rfl ⟨?_,u.o,T8.o⟩;show _=Ending.returned (.tuple #[.agg (bs (S.now (y.home+b))).toArray,iV 0]);rw [<-L.o];rfl
section
structure ig (w:World) (F:Nat->Prop) (p s cR q l m:Nat) (S:DS) (G:SG):Prop where
 d:B.ax w F p s S cR
 st:mZ w q p l m G.y G.busy
 lp:cQ w l p G.L
 ch:Ch w m G.ov
 nq:¬F q
 nl:¬F l
 nm:¬F m
 ql:q≠l
 qm:q≠m
 lm:l≠m
 lk:G.L.Ok s
 bg:G.L.begun=true
 hs:G.y.home+G.y.blocks<=s
 kb:∀x∈G.ov,x.1<G.y.blocks
abbrev zK (q n:Nat) (T:TG):Array Value:= #[pQ q, .map (some n),iV T.bad, .bool T.ended]
structure mx (w:World) (F:Nat->Prop) (q l m t n:Nat) (G:SG) (T:TG):Prop where
 tx:w.heap[t]? =some (.cells (zK q n T) 98 (0,0))
 ch:Ch w n T.puts
 nt:¬F t
 nn:¬F n
 tq:t≠q
 tl:t≠l
 tm:t≠m
 tn:t≠n
 nq:n≠q
 nl:n≠l
 nm:n≠m
 kb:∀x∈T.puts,x.1<G.y.blocks
section
variable {w w':World} {F:Nat->Prop} {p s cR q l m t n:Nat} {S:DS} {G:SG} {T:TG}
theorem ig.later (h:ig w F p s cR q l m S G) (a:bW w w'):ig w' F p s cR q l m S G:=
   ⟨h.d.later a,h.st.later a,h.lp.later a,h.ch.later a,h.nq,h.nl,h.nm,h.ql,h.qm,h.lm,h.lk,h.bg,h.hs,h.kb⟩
theorem mx.later (h:mx w F q l m t n G T) (a:bW w w'):mx w' F q l m t n G T:=
   ⟨(a.block t (aw h.tx)).trans h.tx,h.ch.later a,h.nt,h.nn,h.tq,h.tl,h.tm,h.tn,h.nq,h.nl,h.nm,h.kb⟩
theorem ig.asked {c':Nat} (h:ig w F p s cR q l m S G) (hd:B.ax w' F p s S c') (a:aa F w w'):ig w' F p s c' q l m S G:=
   ⟨hd,h.st.au a h.nq,h.lp.au a h.nl,h.ch.au a h.nm,h.nq,h.nl,h.nm,h.ql,h.qm,h.lm,h.lk,h.bg,h.hs,h.kb⟩
theorem mx.asked (h:mx w F q l m t n G T) (a:aa F w w'):mx w' F q l m t n G T:=
   ⟨(a.block t (aw h.tx) h.nt).trans h.tx,h.ch.au a h.nn,h.nt,h.nn,h.tq,h.tl,h.tm,h.tn,h.nq,h.nl,h.nm,h.kb⟩
theorem mx.c0 (h:mx w F q l m t n G T):w.cell? (aD t 0)=some (pQ q):=aL h.tx
theorem mx.c1 (h:mx w F q l m t n G T):w.cell? (aD t 1)=some (.map (some n)):=bD h.tx
theorem mx.c2 (h:mx w F q l m t n G T):w.cell? (aD t 2)=some (iV T.bad):=bH h.tx
theorem mx.c3 (h:mx w F q l m t n G T):w.cell? (aD t 3)=some (.bool T.ended):=fI h.tx
theorem ig.dead (h:ig w F p s cR q l m S G):Calls prog 58 #[pQ q] w λe w'=>e= .returned (.bool (G.L.dead S))/\bW w w':=NT h.d h.st h.lp h.lk h.bg
theorem GC (h:ig w F p s cR q l m S G) (c:mx w F q l m t n G T):
  Calls prog 136 #[pQ t] w λe w'=>e= .returned (iV (T.bX G S))/\bW w w':=by
 have a:=h.dead;have f:=c.c0;unfold TG.bX;go_in;cases hd:G.L.dead S
 .rw [hd] at a;rw [aA (by decide)];cases d:T.ended
  .rw [aA (by decide)];go_wp2_with fail;refine bE a λw1 aq=>?_;have b:=(c.later aq).c3;rw [d] at b;go_wp2;go_ret;exact⟨rfl,aq⟩
  .rw [aE rfl];go_wp2_with fail;refine bE a λw1 aq=>?_;have b:=(c.later aq).c3;rw [d] at b;go_wp2;go_ret;exact⟨rfl,aq⟩
 .rw [hd] at a;rw [aE rfl];go_wp2_with fail;refine bE a λw1 aq=>?_;go_wp2;go_ret;exact⟨rfl,aq⟩
theorem nI (h:ig w F p s cR q l m S G) (b:mx w F q l m t n G T):
  Calls prog 84 #[pQ t] w λe w'=>e= .returned (iV (T.state G S))/\bW w w':=by
 have a:=GC h b;unfold TG.state;generalize T.bX G S=E at*;go_in;by_cases k:E=0
 .have d:(E != 0)=false:=by rw [k];rfl
  rw [aA (λh=>h k)];go_wp2_with fail;refine bE a λw1 aq=>?_;have c:=(b.later aq).c2;go_wp2;go_ret;exact⟨rfl,aq⟩
 .have d:(E != 0)=true:=by rw [fT];exact k
  rw [aE k];go_wp2_with fail;refine bE a λw1 aq=>?_;go_wp2;go_ret;exact⟨rfl,aq⟩
theorem zL (h:ig w F p s cR q l m S G) (c:mx w F q l m t n G T) (b:Int):
  Calls prog 59 #[pQ t,iV b] w λe w'=>e= .returned (iV (T.refusal G S b))/\bW w w':=by
 have a:=nI h c;have f:=h.st;unfold TG.refusal;generalize T.state G S=E at*;go_in;by_cases k:E=0
 .have d:(E != 0)=false:=by rw [k];rfl
  rw [aA (λh=>h k)];by_cases g:b<0
  .rw [aE (.inl g)];go_wp2_with fail;refine bE a λw1 aq=>?_;go_wp2;go_ret;exact⟨rfl,aq⟩
  .by_cases i:(G.y.blocks:Int)<=b
   .rw [aE (.inr i)];go_wp2_with fail;refine bE a λw1 aq=>?_;have j:=(c.later aq).c0;have o:=(f.later aq).c4;go_wp2;go_ret;exact⟨rfl,aq⟩
   .rw [aA (λh=>h.elim g i)];go_wp2_with fail;refine bE a λw1 aq=>?_;have j:=(c.later aq).c0;have o:=(f.later aq).c4;go_wp2;go_ret;exact⟨rfl,aq⟩
 .have d:(E != 0)=true:=by rw [fT];exact k
  rw [aE k];go_wp2_with fail;refine bE a λw1 aq=>?_;go_wp2;go_ret;exact⟨rfl,aq⟩
end
end
theorem rI {m:Nat} {G:SG} (h:ig w F p s cR q l m S G) (b:Nat) (g:b<G.y.blocks) (f:S.fuse≠0) (aT:S.puts.length+1<=4000000000000):
  Calls prog 114 #[pQ q,iV (b:Int)] w λe w'=>e= .returned (.tuple #[cV (G.block S b),iV 0])/\B.ax w' F p s S (cR+1)/\aa F w w':=by
 have i:=h.hs;have Mb:=h.d.ok.hi;unfold SG.block;cases a:CM.get G.ov b with
 |none=>
  rw [Option.getD_none];exact Bz h.d h.st h.ch h.nq b (by omega) a (by omega) f aT
 |some c=>
  rw [Option.getD_some];refine(D3 h.st h.ch b a).mono ?_;rintro e w' ⟨rfl,eC⟩;exact⟨rfl,(h.d.later eC).le (by omega),aa.ah F eC⟩
theorem vj {m:Nat} {G:SG} (h:ig w F p s cR q l m S G) (b:Nat) (e:b<G.y.blocks):(G.block S b).length=512:=by
 have f:=h.hs;unfold SG.block;cases a:CM.get G.ov b with
 |none=>rw [Option.getD_none];exact br h.d.ok _ (by omega)
 |some c=>rw [Option.getD_some];exact(h.ch.len _ (CM.get_mem a)).2.1
theorem zM {m t:Nat} {G:SG} {T:TG} (h:ig w F p s cR q l m S G) (e:mx w F q l m t n G T) (b:Nat) (a:b<G.y.blocks):(T.jN G S b).length=512:=by
 unfold TG.jN;cases d:CM.get T.puts b with
 |none=>rw [Option.getD_none];exact vj h b a
 |some c=>rw [Option.getD_some];exact(e.ch.len _ (CM.get_mem d)).2.1
theorem VC {m t:Nat} {G:SG} {T:TG} (g:mx w F q l m t n G T) (b:Nat) (d:CM.get T.puts b=some c):
  Calls prog 60 #[pQ t,iV (b:Int)] w λe w'=>e= .returned (.tuple #[cV c,iV 0])/\bW w w':=by
 have f:=g.ch;have nH:=f.len _ (CM.get_mem d);have Pf:=je;have bK:bW w (w.alloc (.cells bh 101)):=(bi _ w).alloc (bP _) _;have p:=(g.later bK).c1;have gG:=(f.later bK).look b nH.1;rw [d] at gG;have bt:=eQ (w.alloc (.cells bh 101)) nH.2.1;rw [World.size_alloc] at bt;have aU:=eJ nH.2.1;have dI:=cB c;have pX:(bs c).length=512:=by rw [bs,List.length_map,nH.2.1]
 obtain⟨A,a⟩:=bQ (bs c);have sC:(Instr.lookup 93 (.map (some n)) (iV (b:Int)) true).run prog (w.alloc (.cells bh 101))= .ok (.tuple #[.agg A.toArray, .bool true]) (w.alloc (.cells bh 101)):=by rw [a];exact gG
 have A6:(((w.alloc (.cells bh 101)).alloc (.cells bh 101)).setCells (w.heap.size+1) 0 (bs c)).rangeAt (w.heap.size+1) 0 (bs c):=λj v k=>by
  have:=bt.1.news j v k;rwa [aK] at this
 rw [<-a] at aU dI pX bt A6;have Rz:=j4 (qR w) (bt.2.1.block _ (by simp));have pi:=yh (World.rangeAt_setCells_same _ w.heap.size 0 A (by rw [pX];exact Rz));have bR:=all_oneCell_toArray dI;have eM:=bK.trans (bt.2.1.mono (by omega));have jK:=yh (eM.trans ((aa.setCells (F:=λj=>j=w.heap.size) rfl A 0 _).below (λj r=>by omega) eM.size));have Kl:=bt.2.2;have i:=yh a;clear gG bt g f bK eM dI d nH a;generalize bh=Z at*;go_in;go_wp2_with (first|refine wpList_load_mid rfl 101 _ rfl (w.heap.size+1) 0 rfl A _ A6 underlying101 rfl aU ?_|refine wpList_store_mid rfl 101 _ _ rfl (w.heap.size+1) 0 A.toArray rfl rfl ?h1 ?h2 bR ?_|refine wpList_store_mid rfl 101 _ _ rfl w.heap.size 0 A.toArray rfl rfl ?h3 ?h4 bR ?_);case h1=>first|simpa using Kl|(rw [pX] at Kl;simpa using Kl)
 case h2=>simpa using aU
 case h3=>
  have e:A.toArray.size=512:=by simpa using pX
  rw [e];exact Rz
 case h4=>simpa using aU
 refine bodyPost_ret (results_cell_tmp (P:=prog) rfl _ _ w.heap.size A _ _ rfl rfl pi.out underlying101 rfl aU) rfl ⟨?_,jK.out⟩;show _=Ending.returned (.tuple #[.agg (bs c).toArray,iV 0]);rw [<-i.o];rfl
theorem RE {m t:Nat} {G:SG} {T:TG} (h:ig w F p s cR q l m S G) (g:mx w F q l m t n G T) (b:Nat) (C:b<G.y.blocks) (D:CM.get T.puts b=none) (I:S.fuse≠0) (aT:S.puts.length+1<=4000000000000):
  Calls prog 60 #[pQ t,iV (b:Int)] w λe w'=>e= .returned (.tuple #[cV (G.block S b),iV 0])/\B.ax w' F p s S (cR+1)/\aa F w w':=by
 obtain⟨Pf,Mb,XB⟩:=jw je h.d.ok.hi h.hs;have bK:bW w (w.alloc (.cells bh 101)):=(bi _ w).alloc (bP _) _;have z:=(g.later bK).c1;have gG:=(g.ch.later bK).look b (by omega);rw [D] at gG;have sC:(Instr.lookup 93 (.map (some n)) (iV (b:Int)) true).run prog (w.alloc (.cells bh 101))= .ok (.tuple #[.agg bh, .bool false]) (w.alloc (.cells bh 101)):=gG;have bt:=eQ (w.alloc (.cells bh 101)) (bB 512);rw [World.size_alloc] at bt;have zI:=eJ (bB 512);have GB:=all_oneCell_toArray (cB (zs 512));have vh:=bt.2.2;have RA:(bs (zs 512)).toArray=bh:=rfl;obtain⟨a,Zn⟩:=bQ (bs (zs 512));rw [<-Zn] at bt zI GB vh RA;have x:a.length=512:=by rw [Zn,bs,List.length_map,bB]
 obtain⟨i,RB⟩:=bQ (((w.alloc (.cells bh 101)).alloc (.cells bh 101)).setCells (w.heap.size+1) 0 a);have VA:bW w i:=by rw [RB];exact bK.trans (bt.2.1.mono (by omega))
 have RC:i.there w.heap.size 0 512:=by rw [RB];exact j4 (qR w) (bt.2.1.block _ (by simp))
 have Zo:w.heap.size<i.heap.size:=by
  have:=bt.2.1.size;rw [RB];rw [World.size_alloc] at this;omega
 obtain⟨H,D4,v,r,ib,Zp,c⟩:=nW ((g.later VA).c0) (rI (h.later VA) b C I aT) (yh RC) (yh VA) (yh h.d.lt) (yh RB) (yh (vj h b C));clear gG bt g bK VA h RC D RB Zn;rw [<-RA] at Pf z sC vh Zp;clear RA;go_in
 go_upto_region 4 with (refine wpList_store_mid rfl 101 _ _ rfl (w.heap.size+1) 0 a.toArray rfl rfl ?h1 ?h2 GB ?_)
 case h1=>first|simpa using vh|(rw [x] at vh;simpa using vh)
 case h2=>simpa using zI
 have Zq:=Zp.o;subst Zq;generalize NS:((w.alloc (.cells a.toArray 101)).alloc (.cells a.toArray 101)).setCells (w.heap.size+1) 0 a=i at*;clear NS sC z vh Zp;obtain⟨A,f⟩:=bQ (bs (G.block S b));have aU:=eJ c.o;have dI:=cB (G.block S b);unfold cV at D4;rw [<-f] at aU dI D4;have pX:A.length=512:=by rw [f,bs,List.length_map,c.o]
 have bR:=all_oneCell_toArray dI;have E:=yh f;clear dI f;go_wp2_with fail;refine fk D4 λw5 jy dX=>?_;have Km:¬F w.heap.size:=λh=>by have:=ib.o _ h;omega
 have RD:=j4 v.o (dX.block _ Zo Km);have pi:=yh (World.rangeAt_setCells_same w5 w.heap.size 0 A (by rw [pX];exact RD));have eF:=aa.setCells (F:=λj=>j=w.heap.size) rfl A 0 w5;have u:=yh (jy.au eF (λk J e=>Km (e▸J)));have T8:=yh (((aa.ah F r.o).trans dX (λ_ h=> .inl h)).trans eF (λk e=> .inr (by omega)):aa F w (w5.setCells w.heap.size 0 A));clear jy dX H eF D4;go_wp2_with (refine wpList_store_mid rfl 101 _ _ rfl w.heap.size 0 A.toArray rfl rfl ?h3 ?h4 bR ?_);case h3=>
  have e:A.toArray.size=512:=by simpa using pX
  rw [e];exact RD
 case h4=>simpa using aU
 refine bodyPost_ret (results_cell_tmp (P:=prog) rfl _ _ w.heap.size A _ _ rfl rfl pi.out underlying101 rfl aU) rfl ⟨?_,u.o,T8.o⟩;show _=Ending.returned (.tuple #[.agg (bs (G.block S b)).toArray,iV 0]);rw [<-E.o];rfl
theorem GD {m t:Nat} {G:SG} {T:TG} (h:ig w F p s cR q l m S G) (f:mx w F q l m t n G T) (b:Nat) (g:b<G.y.blocks) (i:S.fuse≠0) (aT:S.puts.length+1<=4000000000000):
  Calls prog 60 #[pQ t,iV (b:Int)] w λe w'=>e= .returned (.tuple #[cV (T.jN G S b),iV 0])/\B.ax w' F p s S (cR+1)/\aa F w w':=by
 unfold TG.jN;cases a:CM.get T.puts b with
 |none=>
  rw [Option.getD_none];exact RE h f b g a i aT
 |some c=>
  rw [Option.getD_some];refine(VC f b a).mono ?_;rintro e w' ⟨rfl,eC⟩;exact⟨rfl,(h.d.later eC).le (by omega),aa.ah F eC⟩
end Go.Proofs.YtenlkgicpllbhaaGreat
