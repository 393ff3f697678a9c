import Derived.Test.YtenlkgicpllbhaaGreatW01
import Derived.Deep.RegionHeld3
import Derived.Deep.AppendLies
set_option maxRecDepth 20000
set_option maxHeartbeats 8000000
set_option linter.all false
namespace Go.Proofs.YtenlkgicpllbhaaGreat
open Go.Proofs.Tryz
open Go.RowKit Go.Maps
variable {S:DS} {im l:List Int} {ks:List Nat} {ci g gi j k k0 n p s:Nat} {cr gr:Nat->Nat} {F:Nat->Prop} {a:Option Addr} {α:Type} {w w' w3:World}
def DS.wrote (S:DS):DS:={S with writes:=wrap64 (S.writes+1)}
theorem B2 {Bh:World} (h:w'.heap.size<=Bh.heap.size):∀k,more F w w' k->more F w Bh k:=λk a=>by
 rcases a with a|a
 .exact .inl a
 .exact .inr ⟨a.1,by omega⟩
theorem MJ {a:World} {m:Nat} {D:DataW Value} (d:F p) (h:aM a (more F w a) p s S gi ci m D gr cr) (f:aa F w a):
  gD (if 0<S.fuse then a.setCell ⟨p,2,none⟩ (.int .i64 (wrap64 (S.fuse-1))) else a) (more F w (if 0<S.fuse then a.setCell ⟨p,2,none⟩ (.int .i64 (wrap64 (S.fuse-1))) else a)) p s S.fY m/\
   aa F w (if 0<S.fuse then a.setCell ⟨p,2,none⟩ (.int .i64 (wrap64 (S.fuse-1))) else a):=by
 obtain⟨c,_⟩:=h.yo;have ef:(if 0<S.fuse then a.setCell ⟨p,2,none⟩ (.int .i64 (wrap64 (S.fuse-1))) else a).heap.size=a.heap.size:=by split <;> simp [World.setCell]
 have aX:aa (λk=>k=p) a (if 0<S.fuse then a.setCell ⟨p,2,none⟩ (.int .i64 (wrap64 (S.fuse-1))) else a):=by
  split
  .exact aa.setCell (F:=λk=>k=p) a (p:=(aD p 2)) rfl _
  .exact aa.refl _ _
 refine⟨gD.mono ⟨gi,ci,D,gr,cr,c⟩ (B2 (Nat.le_of_eq ef.symm)) (λk xq=>?_),f.trans aX (λj e=> .inl (e▸d))⟩;rw [ef];rcases xq with b|b
 .exact h.lt k (.inl b)
 .rw [ef] at b;exact b.2
set_option maxRecDepth 100000 in
theorem B3 {m:Nat} (hd:gD w F p s S m) (k:Nat) (z:k<s) (H:S.fuse≠0) (aT:S.puts.length+1<=5000000000000)
    (x:Addr) (c:Nat) (l:List Int) (fJ:Src w (some x) 512 l):
  Calls prog 51 #[pQ p,iV (k:Int), .slice (some x) 512 c] w λe w'=>e= .returned (iV 0)/\gD w' (more F w w') p s ((S.put k l).wrote.fY) m/\aa F w w':=by
 have v:=ii hd.at;rw [show (S.fuse == 0)=false by simp [H]] at v;obtain⟨R,E,D,T,O,h⟩:=hd;have U:=h.ok.hi;have y:=te p _ (s*512) E k w (by omega) (aL h.dj);rw [show s*512 / 512=s by omega,show (decide (0<=(k:Int)) && decide ((k:Int)<(s:Int)))=true by simp;omega] at y;obtain⟨a,C,xs,gG,ab0,oL,jx,PN⟩:=h.PK z;obtain⟨M,rt,gv,dr,ec⟩:=info_parts td;have pf:=h.lt p h.fp;have AY:=h.lt m h.fm;have nr:=lK S.puts k;have du:∀wx:World,wx.heap[p]? =w.heap[p]?->wx.cell? (aD p 1)=some (.map (some m)):=λwx e=>bD (e.trans h.dj);have jT:=fJ.1;have vJ:=gG w.drew rfl;go_in;go_wp2_with (first|(go_at_call 35;refine v.mono ?_;rintro e w' ⟨rfl,r⟩;have ez:=r.symm;subst ez)|(go_at_call 94;refine y.mono ?_;rintro e w' ⟨rfl,r⟩;have ez:=r.symm;subst ez));go_region_held3 (λw'=>w'.cell? (aD p 1)=some (.map (some m)))
    ((refine du _ ?_;first|rfl|assumption|(refine(Below.heap_alloc _ _ _ (iP ?_ aq.size)).trans ?_ <;> assumption)))
  (first
   |(go_at_call 93;refine(qA x 512 c l w.drew jT (by omega) (λi J=>fJ.2.2 _ rfl i J)).mono ?_;rintro e w1 ⟨g,u,rfl,I,L,fo⟩;have aq:bW w w1:=⟨fo.os,fo.tape,fo.output,fo.size,fo.block⟩;clear fo;have oY:w1.heap[p]? =w.heap[p]? :=aq.block p pf;have Jh:w1.heap[m]? =w.heap[m]? :=aq.block m AY;have cm:=gG w1 Jh;have fy:=λo=>gG (w1.alloc o) ((Below.heap_alloc w1 o m (iP AY aq.size)).trans Jh))
   |(refine step_append_lies _ (by rfl) _ _ _ (by rfl) 0 36 M _ 1 24 underlying62 rt gv dr ec rfl (by omega) (.slice a (ar S.puts k).length C) (ar S.puts k).length xs (by rfl) (ab0 _ (λA=>(Below.heap_alloc w1 _ _ (iP (h.lt _ (h.db.row k A).1) aq.size)).trans (aq.block _ (h.lt _ (h.db.row k A).1))))
       (aD w1.heap.size 0) 1 1 [.slice (some (aD g 0)) 512 u] (by rfl) (by rfl) (World.news_of_block (cs:= #[.slice (some (aD g 0)) 512 u]) (t:=36) (fr:=(0,0)) (heap_alloc_new w1 _)) (by simp [Value.oneCell']) (by omega) (by unfold maxLen;omega) (by omega) (dU _) (w1.heap.size+1) (by simp) ?_;intro Q bZ W fE jU uL oS;obtain⟨uK,BZ,f,LK,d,aV,TX⟩:=MI h z jT oL jx PN aq I L fE jU uL aT))
 all_goals
  obtain⟨n,N,P,b⟩:=cM h.fp (rU d.dj) (ae d.dj 5) d.Jg;have dV:aa F w (f.setCell ⟨p,5,none⟩ (.int .i64 (wrap64 ((S.put k l).writes+1)))):=aV.trans (aa.setCell (F:=λk=>k=p) f (p:=(aD p 5)) rfl _) (λj K=> .inl (K▸n));have q:=BW p (S.put k l).fuse _ (bH b.dj) (ae b.dj 2) b.ok.fuse.1;have ef:(f.setCell ⟨p,5,none⟩ (.int .i64 (wrap64 ((S.put k l).writes+1)))).heap.size=f.heap.size:=by simp [World.setCell]
  have G:more F w (f.setCell ⟨p,5,none⟩ (.int .i64 (wrap64 ((S.put k l).writes+1))))=more F w f:=by unfold more;rw [ef]
  rw [<-G] at b;have bo:Calls prog 106 #[pQ p] (f.setCell ⟨p,5,none⟩ (.int .i64 (wrap64 ((S.put k l).writes+1)))) λe w'=>e= .returned (.tuple #[])/\gD w' (more F w w') p s ((S.put k l).wrote.fY) m/\aa F w w':=
   q.mono (by rintro e w' ⟨rfl,rfl⟩;exact⟨rfl,MJ n b dV⟩)
  go_wp2_with (go_at_call 106;refine bo.mono ?_;rintro e w5 ⟨rfl,jy,dX⟩);go_ret;exact⟨rfl,jy,dX⟩
theorem PO (hd:aP w F p s S) (k:Nat) (g:k<s) (f:S.fuse≠0) (aT:S.puts.length+1<=5000000000000)
    (x:Addr) (c:Nat) (l:List Int) (fJ:Src w (some x) 512 l):
  Calls prog 51 #[pQ p,iV (k:Int), .slice (some x) 512 c] w λe w'=>e= .returned (iV 0)/\aP w' (more F w w') p s ((S.put k l).wrote.fY)/\aa F w w':=by
 obtain⟨m,hd⟩:=hd.m;refine(B3 hd k g f aT x c l fJ).mono ?_;rintro e w' ⟨a,b,d⟩;exact⟨a,b.at,d⟩
def pj (s:Nat) (f:Nat->List Int):List Int:=(List.range s).flatMap f
theorem B4 (s:Nat) (f:Nat->List Int):pj (s+1) f=pj s f ++ f s:=by simp [pj,List.range_succ]
theorem pk (s:Nat) (f:Nat->List Int) (h:∀k,k<s->(f k).length=512):(pj s f).length=s*512:=by
 induction s with
 |zero=>simp [pj]
 |succ s a=>rw [B4,dT,a (λk b=>h k (by omega)),h s (by omega)];omega
theorem PP (h:im.length=s*512) (a:k<s):(bI im k).length=512:=by simp [bI];omega
theorem Dk (a b:List Int) (c:a.length=s*512) (d:k<s):bI (a ++ b) k=bI a k:=by
 unfold bI;rw [List.drop_append_of_le_length (by omega),List.take_append_of_le_length (by simp;omega)]
theorem Bi (a b:List Int) (c:a.length=s*512) (d:b.length=512):bI (a ++ b) s=b:=by
 unfold bI;rw [<-c,List.drop_left,nh (by omega)]
theorem nw (s:Nat) (f:Nat->List Int) (h:∀k,k<s->(f k).length=512) (k:Nat) (a:k<s):bI (pj s f) k=f k:=by
 induction s with
 |zero=>omega
 |succ s c=>
  have b:=pk s f (λk a=>h k (by omega));rw [B4];by_cases e:k=s
  .subst e;exact Bi _ _ b (h k (by omega))
  .rw [Dk _ _ b (by omega)];exact c (λk a=>h k (by omega)) (by omega)
theorem Dl:∀(s:Nat) {a b:List Int},a.length=s*512->b.length=s*512->(∀k,k<s->bI a k=bI b k)->a=b
 |0,a,b,ha,hb,_=>by
  rw [List.eq_nil_of_length_eq_zero (by omega:a.length=0),List.eq_nil_of_length_eq_zero (by omega:b.length=0)]
 |s+1,a,b,ha,hb,h=>by
  have h0:=h 0 (by omega);simp [bI] at h0;have c:=Dl s (a:=a.drop 512) (b:=b.drop 512) (by simp;omega) (by simp;omega) (λk d=>by
   have:=h (k+1) (by omega);simp only [bI,List.drop_drop] at this⊢;rw [show 512+k*512=(k+1)*512 by omega];exact this)
  rw [<-List.take_append_drop 512 a,<-List.take_append_drop 512 b,h0,c]
theorem jg (L:List α) (o:Nat) (cs:List α) (h:o+cs.length<=L.length):(splice L o cs).length=L.length:=by simp [splice];omega
theorem B5 (im l:List Int) (o:Nat):splice (bs im) o (bs l)=bs (splice im o l):=by simp [splice,bs]
theorem ik (L:List Int) (o:Nat) (cs:List Int) (h:o+cs.length<=L.length) (i:Nat):(splice L o cs)[i]? =if o<=i/\i<o+cs.length then cs[i-o]? else L[i]? :=by
 unfold splice;by_cases a:i<o
 .rw [List.getElem?_append_left (by simp;omega),List.getElem?_take,aE a,aA (by omega)]
 .rw [List.getElem?_append_right (by simp;omega)];have e:(L.take o).length=o:=by simp;omega
  rw [e];by_cases b:i<o+cs.length
  .rw [List.getElem?_append_left (by omega),aE ⟨by omega,b⟩]
  .rw [List.getElem?_append_right (by omega),List.getElem?_drop,aA (by omega)];congr 1;omega
theorem me (im:List Int) (k i:Nat):(bI im k)[i]? =if i<512 then im[k*512+i]? else none:=by
 unfold bI;rw [List.getElem?_take];split
 .rw [List.getElem?_drop]
 .rfl
theorem rZ (YB:im.length=s*512) (c:l.length=512) (b:k<s):bI (splice im (k*512) l) j=if j=k then l else bI im j:=by
 apply List.ext_getElem?;intro i;rw [me];by_cases a:i<512
 .rw [aE a,ik _ _ _ (by omega)];by_cases e:j=k
  .subst e;rw [aE (by omega),aE rfl];congr 1;omega
  .rw [aA (by omega),aA e,me,aE a]
 .rw [aA a];split
  .rw [List.getElem?_eq_none (by omega)]
  .rw [me,aA a]
theorem Fw (L:List α) (o n:Nat) (cs:List α) (h:o+cs.length<=n) (b:n<=L.length):(splice L o cs).take n=splice (L.take n) o cs:=by
 have a:(L.take o).length=o:=by rw [List.length_take];omega
 unfold splice;rw [List.take_append,List.take_append,a,nh (l:=L.take o) (by omega),nh (l:=cs) (by omega),List.drop_take,List.take_take,Nat.min_eq_left (by omega:o<=n),Nat.sub_sub]
theorem ay.copied {c:Nat} (h:ay w 5 g c (bs im)) (n:TypeId) (i:Option Addr) (d gN Be:Nat) (a:Option Addr) (jR Bf:Nat) (l:List Int) (t:Src w a jR l)
    (hd:0<gN->i=some (aD g d)) (Fo:d+gN<=im.length):
  ∃f,(Builtin.copy_ #[36,36] n #[.slice i gN Be, .slice a jR Bf]).run prog w= .ok (goInt (Nat.min jR gN)) f/\
   ay f 5 g c (bs (splice im d (l.take gN)))/\aa (λk=>k=g) w f/\f.heap.size=w.heap.size:=by
 have j:=h.le;obtain⟨cur,o,p,m,s⟩:=h;have b:(bs im).length=im.length:=by simp [bs]
 rw [b] at j m;obtain⟨f,bC,q,r,ef⟩:=xX w n i g d gN Be a jR Bf cur.toList l (by simpa using o) t hd (by simp;omega);have fy:(bs (l.take gN)).length<=gN:=by simp [bs];omega
 have Bj:(bs (l.take gN)).length=(l.take gN).length:=by simp [bs]
 refine⟨f,bC,⟨_,q,?_,?_,s⟩,r,ef⟩
 .rw [List.size_toArray,jg _ _ _ (by simp only [Array.length_toList];omega)];simpa using p
 .have e:(bs (splice im d (l.take gN))).length=im.length:=by
   rw [<-B5,jg _ _ _ (by rw [b];omega),b]
  rw [e,List.toList_toArray,Fw _ _ _ _ (by omega) (by simp;omega),m,B5]
section
open Go.ChangeMaps (setBlock heap_setBlock_same heap_setBlock_other)
theorem B6 {m:Nat} {D:DataW Value} (h:w.ownsMap prog 3 Rs m n D):
  ∃w',(∀c,(Builtin.clear_ #[104] c #[.map (some m)]).run prog w= .ok (.tuple #[]) w')/\w'.ownsMap prog 3 Rs m 0 (.map [])/\aa (λk=>k=m) w w'/\w'.heap.size=w.heap.size:=by
 obtain⟨e,a,b,F,_,_⟩:=h;refine⟨setBlock w m (.map #[] a),?_,⟨#[],a,heap_setBlock_same b _,⟨by simp,?_,by simp⟩,by simp,by simp⟩,⟨rfl,rfl,rfl,by simp [setBlock],λk _ d=>heap_setBlock_other b _ d⟩,by simp [setBlock]⟩
 .intro c;simp [Builtin.clear_,go_sem,MapKept.run_getObj_map b,MapKept.run_setObj_map _ b,setBlock]
 .exact MapKept.stamped_empty _
theorem aM.qB {m:Nat} {D:DataW Value} (h:aM w F p s S gi ci m D gr cr) (i:w'.ownsMap prog 3 Rs m 0 (.map [])) (d:aa (λk=>k=m) w w'):
  aM w' F p s {S with puts:= []} gi ci m (.map []) gr cr:=by
 have dG:∀(b:Nat) (cur:Array Value) (e:TypeId) (c:Nat×Nat),w.heap[b]? =some (Obj.cells cur e c)->w'.heap[b]? =w.heap[b]? :=λb cur e c a=>
  d.block b (kN.1 a).1 (λf=>gA h.map (f▸a) rfl)
 refine⟨h.fp,h.TO,h.fm,λk g=>iP (h.lt k g) d.size,(dG p _ _ _ h.dj).trans h.dj,?_,i,gO.empty _ _ _ _ _,⟨h.ok.len,h.ok.lo,h.ok.hi,by simp,h.ok.fuse⟩⟩;obtain⟨cur,a,_⟩:=h.Jd;exact h.Jd.agree (dG gi _ _ _ a)
theorem aM.agree {m:Nat} {D:DataW Value} (h:aM w F p s S gi ci m D gr cr) (c:w.heap.size<=w'.heap.size) (a:∀k,F k->w'.heap[k]? =w.heap[k]?):
  aM w' F p s S gi ci m D gr cr:=
   ⟨h.fp,h.TO,h.fm,λk b=>iP (h.lt k b) c,(a p h.fp).trans h.dj,h.Jd.agree (a gi h.TO),eh h.map (a m h.fm),h.db.agree a,h.ok⟩
theorem aM.WV {m:Nat} {D:DataW Value} (h:aM w F p s S gi ci m D gr cr):
  aM (w.setCell ⟨p,6,none⟩ (.int .i64 (wrap64 (S.flushes+1)))) F p s {S with flushes:=wrap64 (S.flushes+1)} gi ci m D gr cr:=
 h.ni (h.set 6 _).2 ((h.set 6 _).1.trans (by simp [bG])) rfl rfl h.ok.fuse
theorem aM.PQ {m:Nat} {D:DataW Value} (h:aM w F p s S gi ci m D gr cr) (a:ay w' 5 gi ci (bs im)) (i:im.length=s*512) (b:aa (λk=>k=gi) w w'):
  aM w' F p s {S with im:=im} gi ci m D gr cr:=by
 obtain⟨cur,d,_⟩:=h.Jd;refine⟨h.fp,h.TO,h.fm,λk f=>iP (h.lt k f) b.size,(b.block p (h.lt p h.fp) (λe=>(h.Jd.ne h.dj (by decide)) e.symm)).trans h.dj,a,eh h.map (b.block m (h.lt m h.fm) (gA h.map d)),
  h.db.carry (λg c xs _ dG a=>a.agree (b.block g a.lt dG)) (λg c xs _ a=>a.other b d (by decide)),⟨i,h.ok.lo,h.ok.hi,h.ok.puts,h.ok.fuse⟩⟩
end
def DS.flush (S:DS) (s:Nat):DS:={S with im:=pj s S.now,puts:= [],flushes:=wrap64 (S.flushes+1)}
theorem Ly (h:aP w F p s S) (b:S.fuse=0):
  Calls prog 52 #[pQ p] w λe w'=>e= .returned (iV 3)/\w'=w:=by
 have a:=ii h;rw [b] at a;go_in;go_wp2_with (go_at_call 35;refine a.mono ?_;rintro e w' ⟨rfl,rfl⟩);go_ret;exact⟨rfl,rfl⟩
theorem Lz {m:Nat} {D:DataW Value} (h:aM w F p s S gi ci m D gr cr) (f:ar S.puts k≠ []):
  k<s/\∃g c,w.cell? ⟨gr k,(ar S.puts k).length-1,none⟩=some (.slice (some (aD g 0)) 512 c)/\
   ∃a,(Builtin.copy_ #[36,36] 3 #[.slice (some ⟨gi,k*512,none⟩) 512 512, .slice (some (aD g 0)) 512 c]).run prog w= .ok (goInt 512) a/\
    aM a F p s {S with im:=splice S.im (k*512) (S.now k)} gi ci m D gr cr/\aa (λb=>b=gi) w a/\a.heap.size=w.heap.size:=by
 have eF:k<s:=by
  obtain⟨l,e⟩:=List.exists_mem_of_ne_nil _ f;unfold ar at e;obtain⟨q,i,_⟩:=List.mem_map.1 e;obtain⟨iA,qC⟩:=List.mem_filter.1 i;have:=(h.ok.puts q iA).1;simp at qC;omega
 have t:=List.length_pos_iff.2 f;obtain⟨_,xs,aY,oL⟩:=h.db.row k f;obtain⟨g,c,o,r,dG,n⟩:=oL.get ((ar S.puts k).length-1) (by omega);have e:=yn h.ok (k:=k) (j:=(ar S.puts k).length-1) (by omega);have MK:S.now k=(ar S.puts k)[(ar S.puts k).length-1]:=by
  simp [DS.now,DS.gB,List.getD,show¬(ar S.puts k).length=0 by omega,List.getElem?_eq_getElem (show (ar S.puts k).length-1<(ar S.puts k).length by omega)]
 have fJ:=n.src;rw [e] at fJ;have d:=h.ok.len;obtain⟨a,bC,fb,aX,ef⟩:=h.Jd.copied 3 (some ⟨gi,k*512,none⟩) (k*512) 512 512 (some (aD g 0)) 512 c _ fJ (λ_=>rfl) (by omega);rw [nh (by omega),<-MK] at fb;exact⟨eF,g,c,aY.cell o,a,bC,h.PQ fb (by rw [jg _ _ _ (by rw [MK];omega)];exact d) aX,aX,ef⟩
theorem YC (S:DS) (im:List Int) (k:Nat) (a:ar S.puts k≠ []):DS.now {S with im:=im} k=S.now k:=by
 have b:=List.length_pos_iff.2 a;simp [DS.now,DS.gB,show¬(ar S.puts k).length=0 by omega]
theorem tj (S:DS) (k:Nat) (a:ar S.puts k= []):S.now k=bI S.im k:=by simp [DS.now,DS.gB,a]
theorem br (h:S.Ok s):∀k,k<s->(S.now k).length=512:=λ_ a=>DS.np h a (bP _)
theorem O5 {wr:World} {m:Nat} {D:DataW Value} (h:aM w F p s S gi ci m D gr cr) (hd:aM wr F p s {S with im:=im} gi ci m D gr cr)
    (g:∀k,k<s->bI im k=S.now k) (d:aa F w wr) (AZ:w3.ownsMap prog 3 Rs m 0 (.map [])) (aV:aa (λk=>k=m) wr w3):
  w3.cell? (aD p 6)=some (iV S.flushes)/\w3.frozen? (aD p 6)=false/\
  Calls prog 106 #[pQ p] (w3.setCell ⟨p,6,none⟩ (.int .i64 (wrap64 (S.flushes+1)))) λe w'=>e= .returned (.tuple #[])/\aP w' F p s ((S.flush s).fY)/\aa F w w':=by
 have e:im=pj s S.now:=Dl s hd.ok.len (pk s _ (br h.ok)) (λk d=>by
  rw [g k d,nw s _ (br h.ok) k d])
 subst e;have b:=hd.qB AZ aV;have a:=b.WV;have dV:aa F w (w3.setCell ⟨p,6,none⟩ (.int .i64 (wrap64 (S.flushes+1)))):=(d.trans aV (λj c=> .inl (c▸h.fm))).trans (aa.setCell (F:=λk=>k=p) w3 (p:=(aD p 6)) rfl _) (λj c=> .inl (c▸h.fp));refine⟨wG b.dj,ae b.dj 6,(BW p S.fuse _ (bH a.dj) (ae a.dj 2) a.ok.fuse.1).mono ?_⟩;rintro e w' ⟨rfl,rfl⟩;have f:=a.yo;exact⟨rfl,⟨gi,ci,m,_,gr,cr,f.1⟩,dV.trans f.2 (λj c=> .inl c)⟩
set_option maxRecDepth 100000 in
theorem TP (hd:aP w F p s S) (P:S.fuse≠0) (aT:S.puts.length+1<=5000000000000):
  Calls prog 52 #[pQ p] w λe w'=>e= .returned (iV 0)/\aP w' F p s ((S.flush s).fY)/\aa F w w':=by
 have J:=ii hd;rw [show (S.fuse == 0)=false by simp [P]] at J;obtain⟨o,v,m,D,f,I,h⟩:=hd;have K:=bD h.dj;have H:=h;go_in;go_wp2_with (first|(go_at_call 35;refine J.mono ?_;rintro e w' ⟨rfl,U⟩;have ez:=U.symm;subst ez)|(at_range;refine wpList_range_own _ rfl _ 104 rfl 3 62 fX underlying104 Rs m S.puts.length D rfl H.map ?_;intro w0 pg uD xZ;go_frame));have wH:aa F w w0:=⟨uD.os,uD.tape,uD.output,uD.size,λk i _=>uD.block k i (by simp)⟩;have wI:=H.agree uD.size (λk i=>uD.block k (H.lt k i) (by simp));have vJ:∀k,k<s->bI S.im k=if has D (kk k) then bI S.im k else S.now k:=λk _=>by
  by_cases l:ar S.puts k= []
  .rw [H.db.Fq k l];simp [tj S k l]
  .rw [H.db.has l];simp
 go_loopw [3,4] (λ_ _ wr=>∃(left:Lit->Bool) (iN:Nat) (im:List Int),wr.ranges prog 3 Rs m w.heap.size S.puts.length D left iN/\aM wr F p s {S with im:=im} o v m D f I/\
     (∀k,k<s->bI im k=if left (kk k) then bI S.im k else S.now k)/\aa F w wr)
    (λ_ _ wr=>wr.rangeLeft m w.heap.size)
 case atStart=>exact⟨_,_,S.im,pg,wI,vJ,wH⟩
 case round=>
  obtain⟨left,iN,im,mI,hd,R,i⟩:=hrel;have n:=hd;have E:=R;go_wp2_with (at_next;refine wpList_next_ranges _ rfl _ rfl 3 fX Rs (Value.int .i64) MF (λW X gF=>by obtain⟨x,rfl,_⟩:=Maps.keyOf_int_inv underlying3 gF;exact⟨x,rfl⟩) rX m w.heap.size S.puts.length _ _ _ rfl mI ?_ ?_)
  .intro _ vJ;obtain⟨C,LK,AZ,aV,_⟩:=B6 n.map;have K:=bD n.dj;obtain⟨Y,Z,bo⟩:=O5 H n (λk i=>by rw [E k i,vJ];simp) i AZ aV;go_wp2_with (go_at_call 106;refine bo.mono ?_;rintro e w5 ⟨rfl,jy,dX⟩);go_ret;exact⟨rfl,jy,dX⟩
  .intro x ca M L X yd yp r ph gF x8 T ic oR bm fU bo IQ;obtain⟨k,rfl,rfl,A,N⟩:=n.db.met gF T ic;have l:ar S.puts k≠ []:=A;obtain⟨d,Bk⟩:∃d,(ar S.puts k).length=d+1:=⟨(ar S.puts k).length-1,by have:=List.length_pos_iff.2 l;omega⟩;have aht:∀j,F j->j≠w.heap.size:=λj c e=>by have:=H.lt j c;omega
   have cC:aM r.drew F p s {S with im:=im} o v m D f I:=n.agree fU.size (λj c=>fU.block j (n.lt j c) (by simpa using aht j c));obtain⟨eF,g,u,du,C,bC,t,aV,Dj⟩:=Lz cC l;have ahu:=cC.Jd.le;have y:=o9 p o (s*512) v s k k r.drew (aL cC.dj) rfl eF rfl cC.ok.hi (by simp [bs,cC.ok.len] at ahu;omega);obtain⟨rfl,rfl,rfl⟩:ca=_/\M=_/\L=_:=(by simpa using N);simp only [Bk] at IQ du;have PR:r.cell? ⟨f k,d,none⟩=some (.slice (some (aD g 0)) 512 u):=(by simpa using du);have mg:d+1<=S.puts.length:=(by rw [<-Bk];exact lK S.puts k);have bz:C.cell? ⟨f k,d,none⟩=some (.slice (some (aD g 0)) 512 u):=by
    obtain⟨xs,aY,_⟩:=(cC.db.row k l).2;obtain⟨cur,q,_⟩:=cC.Jd;exact(World.cell?_of_block (w:=r.drew) (a:=⟨f k,d,none⟩) (aV.block (f k) aY.lt (aY.ne q (by decide)))).trans PR
   rw [(YC S im k l)] at t;have gZ:∀j,j<s->bI (splice im (k*512) (S.now k)) j=if (left (kk j) && !(kk j).sameKey (kk k)) then bI S.im j else S.now j:=λj c=>by
    rw [rZ n.ok.len (br H.ok k eF) eF,ln];by_cases e:j=k
    .subst e;simp
    .rw [aA e,E j c];simp [e]
   have Q:=H.lt o H.TO;have E7:r.grownBy C (some o):=⟨aV.os,aV.tape,aV.output,aV.size,λj c dG=>aV.block j c (λe=>dG (by rw [e]))⟩;have z:m≠o:=by
    obtain⟨cur,q,_⟩:=H.Jd;exact gA H.map q
   have Ji:=oR.kept E7 (by simpa using z) (by simp;omega);have Fx:=Ji;have O:r.drew.cell? ⟨f k,d,none⟩=some (.slice (some (aD g 0)) 512 u):=PR
   dsimp only [MF] at IQ⊢
   have rt:(0:Int)<=(d:Int):=(by omega);have Xa:(d:Int)<(d:Int)+1:=(by omega);have Dm:IntKind.i64.wrap (d:Int)=(d:Int):=(by rw [IntKind.wrap_i64];omega);go_wp2_with fail;go_region_held3 (λw'=>w'.cell? ⟨f k,d,none⟩=some (.slice (some (aD g 0)) 512 u)) (assumption) (first|(go_at_call 107;refine y.mono ?_;rintro e w' ⟨rfl,rfl⟩));all_goals
    go_wp2;go_roundw;case rel=>exact⟨_,ph,_,Fx,t,gZ,(i.trans (G:=λj=>j=w.heap.size) ⟨fU.os,fU.tape,fU.output,fU.size,λj c dG=>fU.block j c (by simpa using dG)⟩ (λj c=> .inr (by omega))).trans (b:=r) (G:=λj=>j=o) ⟨aV.os,aV.tape,aV.output,aV.size,aV.block⟩ (λj c=> .inl (c▸H.TO))⟩
    case measure=>rw [Fx.left_eq,mI.left_eq];exact bm
theorem Jj (h:aP w F p s S) (b:Int) (a:Option Addr) (n c:Nat) (f:S.fuse=0):
  Calls prog 51 #[pQ p,iV b, .slice a n c] w λe w'=>e= .returned (iV 3)/\w'=w:=by
 have d:=ii h;rw [f] at d;go_in;go_wp2_with (go_at_call 35;refine d.mono ?_;rintro e w' ⟨rfl,rfl⟩);go_ret;exact⟨rfl,rfl⟩
theorem Fy (h:aP w F p s S) (a:Int) (i:Option Addr) (n c:Nat) (o:S.fuse≠0) (r:a<0\/(s:Int)<=a):
  Calls prog 51 #[pQ p,iV a, .slice i n c] w λe w'=>e= .returned (iV 11)/\aP w' F p s S.refuse/\aa F w w':=by
 have f:=ii h;rw [show (S.fuse == 0)=false by simp [o]] at f;obtain⟨k,d,m,D,l,j,h⟩:=h;have t:=h.ok.hi;have g:=te p _ (s*512) d a w (by omega) (aL h.dj);rw [show s*512 / 512=s by omega,show (decide (0<=a) && decide (a<(s:Int)))=false by simp;omega] at g;have fb:Calls prog 95 #[pQ p,iV 11] w λe w'=>e= .returned (iV 11)/\aP w' F p s S.refuse/\aa F w w':=
    (rW p S.refused 11 w (ri h.dj) (ae h.dj 7)).mono (by rintro e w' ⟨rfl,rfl⟩;exact⟨rfl,⟨k,d,m,D,l,j,h.refused⟩,aa.setCell w h.fp _⟩)
 go_in;go_wp2_with (first|(go_at_call 35;refine f.mono ?_;rintro e w' ⟨rfl,b⟩;have ez:=b.symm;subst ez)|(go_at_call 94;refine g.mono ?_;rintro e w' ⟨rfl,b⟩;have ez:=b.symm;subst ez)|(go_at_call 95;refine fb.mono ?_;rintro e w' ⟨rfl,hd,q⟩));go_ret;exact⟨rfl,hd,q⟩
theorem Dn (h:aP w F p s S) (k:Nat) (i:Option Addr) (n c:Nat) (q:S.fuse≠0) (g:k<s) (r:n≠512):
  Calls prog 51 #[pQ p,iV (k:Int), .slice i n c] w λe w'=>e= .returned (iV 2)/\aP w' F p s S.refuse/\aa F w w':=by
 have d:=ii h;rw [show (S.fuse == 0)=false by simp [q]] at d;obtain⟨l,b,m,D,o,j,h⟩:=h;have t:=h.ok.hi;have f:=te p _ (s*512) b k w (by omega) (aL h.dj);rw [show s*512 / 512=s by omega,show (decide (0<=(k:Int)) && decide ((k:Int)<(s:Int)))=true by simp;omega] at f;have fb:Calls prog 95 #[pQ p,iV 2] w λe w'=>e= .returned (iV 2)/\aP w' F p s S.refuse/\aa F w w':=
    (rW p S.refused 2 w (ri h.dj) (ae h.dj 7)).mono (by rintro e w' ⟨rfl,rfl⟩;exact⟨rfl,⟨l,b,m,D,o,j,h.refused⟩,aa.setCell w h.fp _⟩)
 have dG:((n:Int) != 512)=true:=by rw [fT];omega
 go_in;go_wp2_with (first|(go_at_call 35;refine d.mono ?_;rintro e w' ⟨rfl,a⟩;have ez:=a.symm;subst ez)|(go_at_call 94;refine f.mono ?_;rintro e w' ⟨rfl,a⟩;have ez:=a.symm;subst ez)|(go_at_call 95;refine fb.mono ?_;rintro e w' ⟨rfl,hd,g⟩));go_ret;exact⟨rfl,hd,g⟩
def DS.lay (S:DS) (calls:Int):DS:=if S.fuse=0 then S else {S with fuse:=max calls (-1)}
def DS.take (S:DS):DS:={S with life:=wrap64 (S.life+1)}
theorem WY (h:aP w F p s S) (a:Int) (i:a<=9223372036854775807):
  Calls prog 26 #[pQ p,iV a] w λe w'=>e= .returned (.tuple #[])/\aP w' F p s (S.lay a)/\aa F w w':=by
 obtain⟨d,b,m,D,f,c,h⟩:=h;refine(TN p S.fuse a w (bH h.dj) (ae h.dj 2)).mono ?_;rintro e w' ⟨rfl,rfl⟩;by_cases g:S.fuse=0
 .simp only [g,if_true,DS.lay];exact⟨trivial,⟨d,b,m,D,f,c,h⟩,aa.refl _ _⟩
 .simp only [g,if_false,DS.lay];exact⟨trivial,⟨d,b,m,D,f,c,h.ni (h.set 2 _).2 ((h.set 2 _).1.trans (by simp [bG])) rfl rfl (by simp only;omega)⟩,aa.setCell w h.fp _⟩
theorem UK (h:aP w F p s S):
  Calls prog 48 #[pQ p] w λe w'=>e= .returned (iV (wrap64 (S.life+1)))/\aP w' F p s S.take/\aa F w w':=by
 obtain⟨c,a,m,D,d,b,h⟩:=h;refine(PB p S.life w (fI h.dj) (ae h.dj 3)).mono ?_;rintro e w' ⟨rfl,rfl⟩;exact⟨rfl,⟨c,a,m,D,d,b,h.ni (h.set 3 _).2 ((h.set 3 _).1.trans (by simp [bG,DS.take])) rfl rfl h.ok.fuse⟩,aa.setCell w h.fp _⟩
def jh (S:DS) (k:Nat) (A B C:Nat):List Int:=
   (S.gB k (A%((ar S.puts k).length+1))).take (C%513) ++ (S.gB k (B%((ar S.puts k).length+1))).drop (C%513)
theorem Fz {m:Nat} {D:DataW Value} (h:aM w F p s S gi ci m D gr cr) (k:Nat) (f:k<s) (j:Nat) (b:Int) (a:b=(j:Int)) (d:j<=(ar S.puts k).length) (aT:S.puts.length<=140737488355328):
  Calls prog 96 #[pQ p,iV (k:Int),iV b] w λe w'=>∃g o c,e= .returned (.slice (some (aD g o)) 512 c)/\F g/\512<=c/\(g=gi->o=k*512/\S.gB k j=bI S.im k)/\Src w (some (aD g o)) 512 (S.gB k j)/\w'=w:=by
 subst a;exact Fu h k f j d aT
theorem Do (x:Int) (y:Nat) (h:max x 0=(y:Int)) (w:World):(Builtin.max_ #[3,3] 3 #[iV x,iV 0]).run prog w= .ok (iV (y:Int)) w:=by
 rw [<-h];by_cases a:x<0
 .simp [Builtin.max_,Builtin.max2,a,show max x 0=0 by omega]
 .simp [Builtin.max_,Builtin.max2,a,show max x 0=x by omega]
theorem Src.front {x:Addr} (h:Src w (some x) n l) (c:j<=n):Src w (some x) j (l.take j):=by
 have d:=h.1;refine⟨by rw [List.length_take];omega,(λh=>by cases h),λy b i a=>?_⟩;rw [h.2.2 y b i (by omega)];simp [List.getD,a]
theorem Jk (im b lb:List Int) (o a n:Nat) (l:a<=n) (E8:b.length=n) (Bj:lb.length=n) (k:o+n<=im.length):
  splice (splice im o (b.take a)) (o+a) (lb.drop a)=splice im o (b.take a ++ lb.drop a):=by
 have c:(b.take a).length=a:=by rw [List.length_take];omega
 have d:(lb.drop a).length=n-a:=by rw [List.length_drop];omega
 have e:(b.take a ++ lb.drop a).length=n:=by rw [dT,c,d];omega
 have f:(splice im o (b.take a)).length=im.length:=jg _ _ _ (by omega);apply List.ext_getElem?;intro i;rw [ik _ _ _ (by omega),ik _ _ _ (by omega),ik _ _ _ (by omega),c,d,e];by_cases g:o<=i/\i<o+a
 .rw [aA (by omega),aE (by omega),aE (by omega),List.getElem?_append_left (by omega)]
 .by_cases j:o+a<=i/\i<o+n
  .rw [aE (by omega),aE (by omega),List.getElem?_append_right (by omega),c,show i-(o+a)=i-o-a by omega]
  .rw [aA (by omega),aA (by omega),aA (by omega)]
theorem FA (im b:List Int) (k a i:Nat) (E8:(b.take a).length=a) (d:k*512+a<=im.length) (c:a+i<512):
    (splice im (k*512) (b.take a)).getD (k*512+(a+i)) 0=(bI im k).getD (a+i) 0:=by
 rw [List.getD,List.getD,ik _ _ _ (by omega),aA (by omega),me,aE c]
theorem PS {m:Nat} {D:DataW Value} (h:aM w F p s S gi ci m D gr cr) (M:k<s) {c:Nat} (Bl:c<=512) {o lb:List Int}
  {z C ca n u:Nat} (UL:Src w (some (aD z C)) 512 o) (sb:Src w (some (aD n u)) 512 lb) (E9:n=gi->u=k*512/\lb=bI S.im k):
  ∃d,(Builtin.copy_ #[36,36] 3 #[.slice (some ⟨gi,k*512,none⟩) c 512, .slice (some (aD z C)) c ca]).run prog w= .ok (goInt (Nat.min c c)) d/\d.heap.size=w.heap.size/\
     (∀r q v x,(c<512->r=some ⟨gi,k*512+c,none⟩/\q=some ⟨n,u+c,none⟩)->
    ∃w3,(Builtin.copy_ #[36,36] 3 #[.slice r (512-c) v, .slice q (512-c) x]).run prog d.drew= .ok (goInt (Nat.min (512-c) (512-c))) w3/\
     aM w3 F p s {S with im:=splice S.im (k*512) (o.take c ++ lb.drop c)} gi ci m D gr cr/\aa F w w3):=by
 obtain⟨f,E8,Bj⟩:=jw h.ok.len UL.1 sb.1;obtain⟨d,bC,fb,aX,ef⟩:=h.Jd.copied 3 (some ⟨gi,k*512,none⟩) (k*512) c 512 (some (aD z C)) c ca (o.take c) (UL.front Bl) (λ_=>rfl) (by omega);rw [List.take_take,Nat.min_self] at fb;have fy:(splice S.im (k*512) (o.take c)).length=s*512:=by rw [jg _ _ _ (by rw [List.length_take];omega)];exact f
 refine⟨d,bC,ef,λr q v x g=>?_⟩;have ab2:ay d.drew 5 gi ci (bs (splice S.im (k*512) (o.take c))):=fb;have fJ:Src d.drew q (512-c) (lb.drop c):=by
  refine⟨by rw [List.length_drop];omega,λe=>?_,λy H i L=>?_⟩
  .by_cases t:c<512
   .rw [(g t).2] at e;cases e
   .omega
  .have t:c<512:=(by omega);rw [(g t).2] at H;cases H;rw [aK];have h0:=sb.2.2 _ rfl (c+i) (by omega);rw [aK] at h0;have K:(lb.drop c).getD i 0=lb.getD (c+i) 0:=(by simp [List.getD]);rw [K];by_cases A:n=gi
   .obtain⟨rfl,rfl⟩:=E9 A;subst A;have E:=ab2.byte (i:=k*512+(c+i)) (by omega);rw [aK,Nat.zero_add] at E;rw [Nat.add_assoc,E,FA _ _ _ _ _ (by rw [List.length_take];omega) (by omega) (by omega)]
   .have:=World.cell?_of_block (w:=w) (w':=d) (a:=⟨n,u+(c+i),none⟩) (aX.block n (World.block_lt_of_cell? _ _ h0) A);rw [Nat.add_assoc];exact this.trans h0
 obtain⟨w3,LK,sV,aV,_⟩:=ab2.copied 3 r (k*512+c) (512-c) v q (512-c) x (lb.drop c) fJ (λt=>(g (by omega)).1) (by omega);rw [nh (l:=lb.drop c) (by rw [List.length_drop];omega)] at sV;have e:=Jk S.im o lb (k*512) c 512 Bl E8 Bj (by omega);rw [e] at sV;have ab3:=aX.trans (b:=d) (G:=λb=>b=gi) ⟨aV.os,aV.tape,aV.output,aV.size,aV.block⟩ (λj J=> .inl J);exact⟨w3,LK,h.PQ sV (by rw [jg _ _ _ (by rw [dT,List.length_take,List.length_drop];omega)];exact f) ab3,ab3.mono (λb I=>I▸h.TO)⟩
set_option maxRecDepth 100000 in
theorem UM {m:Nat} {D:DataW Value} (h:aM w F p s S gi ci m D gr cr) (k:Nat) (y:k<s) (aT:S.puts.length+1<=5000000000000)
    (A B C:Int) (A' B' f:Nat) (R:max A 0=(A':Int)) (T:max B 0=(B':Int)) (U:max C 0=(f:Int)) (J:A<=9223372036854775807) (K:B<=9223372036854775807) (YD:C<=9223372036854775807):
  Calls prog 70 #[pQ p,iV (k:Int), .agg #[iV A,iV B,iV C]] w λe w'=>e= .returned (.tuple #[])/\aM w' F p s {S with im:=splice S.im (k*512) (jh S k A' B' f)} gi ci m D gr cr/\aa F w w':=by
 have N:=Do A A' R;have O:=Do B B' T;have P:=Do C f U;have Y:(A':Int)<=9223372036854775807:=by omega
 have eM:(B':Int)<=9223372036854775807:=by omega
 have YE:(f:Int)<=9223372036854775807:=by omega
 have nr:=lK S.puts k;have hd:aM (w.alloc (.cells #[.int .i64 A, .int .i64 B, .int .i64 C] 115)) F p s S gi ci m D gr cr:=h.agree (by simp) (λj M=>Below.heap_alloc _ _ _ (h.lt j M));have oZ:aa F w (w.alloc (.cells #[.int .i64 A, .int .i64 B, .int .i64 C] 115)):=aa.alloc _ _ _;obtain⟨a,cc,xs,gG,_⟩:=hd.PK y;have W:=bD hd.dj;have cm:=gG _ rfl;have E:=hd.Jd.le;have x:=o9 p gi (s*512) ci s k k _ (aL hd.dj) rfl y rfl h.ok.hi (by simp [bs,hd.ok.len] at E;omega);have Jh:∀j:Nat,(j:Int)%(((ar S.puts k).length:Int)+1)=((j%((ar S.puts k).length+1):Nat):Int):=λj=>by push_cast;rfl
 have BZ:∀j:Nat,j%((ar S.puts k).length+1)<=(ar S.puts k).length:=λj=>Nat.le_of_lt_succ (Nat.mod_lt _ (by omega));have u:=Fz hd k y (A'%((ar S.puts k).length+1)) _ (Jh A') (BZ A') (by omega);have v:=Fz hd k y (B'%((ar S.puts k).length+1)) _ (Jh B') (BZ B') (by omega);have t:(f:Int)%513=((f%513:Nat):Int):=by push_cast;rfl
 obtain⟨c,Bl⟩:=bQ (f%513);rw [<-Bl] at t;have Xb:c<=512:=by omega
 obtain⟨Q,ab4⟩:=bL hd Bl;clear h R T U hd gG J K YD Jh BZ E Bl;go_in;go_wp2_with fail;refine u.mono ?_;rintro e w2 ⟨ga,oa,ca,rfl,Z,tk,L,UL,g⟩;have ez:=g.symm;subst ez;clear u g;have n:=yh UL;clear UL L;go_wp2_with fail;refine v.mono ?_;rintro e w3 ⟨H,I,cb,rfl,Dp,hcb,E9,sb,g⟩;have ez:=g.symm;subst ez;clear v g;obtain⟨q,l⟩:=bL sb E9;clear sb E9;go_wp2_with fail;refine bE x λw4 g=>?_;have ez:=g.symm;subst ez;clear x g;have yq:aM (w.alloc (.cells #[.int .i64 A, .int .i64 B, .int .i64 C] 115)).drew F p s S gi ci m D gr cr:=Q.o.agree (bP _) (λ_ _=>rfl);obtain⟨w5,ab5,_,oM⟩:=PS (ca:=ca) yq y Xb n.o q.o l.o;have vK:=yh oM;have Jl:(0:Int)<=(c:Int):=by omega
 have A2:(c:Int)<=512:=by omega
 have B7:(c:Int)<=(ca:Int):=by omega
 have ML:(c:Int)<=(cb:Int):=by omega
 clear yq oM;go_wp2_with fail;go_region_held3 (λ_=>True) (trivial) (fail);go_wp2_with fail;have jz:∀d,aM d F p s {S with im:=splice S.im (k*512) (List.take c (S.gB k (A'%((ar S.puts k).length+1))) ++ List.drop c (S.gB k (B'%((ar S.puts k).length+1))))} gi ci m D gr cr->
   aa F (w.alloc (.cells #[.int .i64 A, .int .i64 B, .int .i64 C] 115)).drew d->aM d F p s {S with im:=splice S.im (k*512) (jh S k A' B' f)} gi ci m D gr cr/\aa F w d:=λd X r=>by
  refine⟨?_,oZ.trans (b:=w.alloc (.cells #[.int .i64 A, .int .i64 B, .int .i64 C] 115)) (G:=F) ⟨r.os,r.tape,r.output,r.size,r.block⟩ (λj M=> .inl M)⟩;unfold jh;rw [<-ab4.o];exact X
 have kR:=yh jz;clear jz oZ ab5 N O P cm W Q n q l ab4 t;rcases(show c=0\/(0<c/\c<512)\/c=512 by omega) with h5|h5|h5
 .subst h5;obtain⟨d,FB,po,ji⟩:=vK.o (some ⟨gi,k*512,none⟩) (some (aD H I)) 512 cb (λ_=>⟨rfl,rfl⟩);simp only [Nat.sub_zero] at FB;have i:=kR.o d po ji;clear po ji vK kR;go_region_held3 (λ_=>True) (trivial) (fail);all_goals
   go_end0
   exact⟨rfl,i⟩
 .obtain⟨d,FB,po,ji⟩:=vK.o (some ⟨gi,k*512+c,none⟩) (some ⟨H,I+c,none⟩) (512-c) (cb-c) (λ_=>⟨rfl,rfl⟩);have i:=kR.o d po ji;have z1:¬512=c:=by omega
  have z2:¬cb=c:=by omega
  clear po ji vK kR;go_region_held3 (λ_=>True) (trivial) (fail);all_goals
   go_end0
   exact⟨rfl,i⟩
 .subst h5;by_cases z:cb=512
  .subst z;obtain⟨d,FB,po,ji⟩:=vK.o (some ⟨gi,k*512,none⟩) (some (aD H I)) 0 0 (λh=>by omega);simp only [Nat.sub_self] at FB;have i:=kR.o d po ji;clear po ji vK kR;go_region_held3 (λ_=>True) (trivial) (fail);all_goals
    go_end0
    exact⟨rfl,i⟩
  .obtain⟨d,FB,po,ji⟩:=vK.o (some ⟨gi,k*512,none⟩) (some ⟨H,I+512,none⟩) 0 (cb-512) (λh=>by omega);simp only [Nat.sub_self] at FB;have i:=kR.o d po ji;clear po ji vK kR;go_region_held3 (λ_=>True) (trivial) (fail);all_goals
    go_end0
    exact⟨rfl,i⟩
abbrev yr (l:List Nat):List Value:=l.map (λk:Nat=>Value.int .i64 (k:Int))
def aG (S:DS) (s:Nat):List Nat:=(List.range s).filter (λk=> !(ar S.puts k).isEmpty)
theorem nX:k∈aG S s↔k<s/\ar S.puts k≠ []:=by
 simp [aG,List.mem_filter]
theorem LL (l:List Nat):(l.map (λk:Nat=>(k:Int))).map (Value.int .i64)=yr l:=by rw [List.map_map];rfl
def yt:Prop:=∀(g cap:Nat) (zs:List Int) (w:World),ay w 3 g cap (zs.map (Value.int .i64))->zs.length<4611686018427387904->
 Calls prog 125 #[.slice (some (aD g 0)) zs.length cap] w λe w'=>e= .returned (.tuple #[])/\ay w' 3 g cap ((zs.mergeSort λx y=>decide (x<=y)).map (Value.int .i64))/\aa (λk=>k=g) w w'
def Dq:Prop:=∀(w:World),Calls prog 125 #[.slice none 0 0] w λe w'=>e= .returned (.tuple #[])/\bW w w'
theorem FD (dh:S.Ok s) (i:ks.Nodup) (g:∀k,k∈ks↔ar S.puts k≠ []):
    ((ks.map (λk:Nat=>(k:Int))).mergeSort λx y=>decide (x<=y))=(aG S s).map (λk:Nat=>(k:Int)):=by
 have bm:∀k,ar S.puts k≠ []->k<s:=λk j=>by
  obtain⟨l,f⟩:=List.exists_mem_of_ne_nil _ j;unfold ar at f;obtain⟨q,m,_⟩:=List.mem_map.1 f;obtain⟨iA,qC⟩:=List.mem_filter.1 m;have:=(dh.puts q iA).1;simp at qC;omega
 have mg:(aG S s).Nodup:=List.Pairwise.filter _ List.nodup_range;have PU:=(List.perm_ext_iff_of_nodup i mg).2 (λk=>by
  rw [g,nX];exact⟨λh=>⟨bm k h,h⟩,λh=>h.2⟩)
 have bo:((aG S s).map (λk:Nat=>(k:Int))).Pairwise (λx y=>decide (x<=y)=true):=by
  refine List.pairwise_map.2 ?_;have:(aG S s).Pairwise (λx y=>x<y):=List.Pairwise.filter _ List.pairwise_lt_range;exact this.imp (λh=>by simp;omega)
 have o:∀a b c:Int,decide (a<=b)=true->decide (b<=c)=true->decide (a<=c)=true:=λa b c d e=>by simp only [decide_eq_true_eq] at*;omega
 have n:∀a b:Int,(decide (a<=b) || decide (b<=a))=true:=λa b=>by simp only [Bool.or_eq_true,decide_eq_true_eq];omega
 refine List.Perm.eq_of_pairwise (le:=λa b=>decide (a<=b)=true) (λa b _ _ d e=>?_) (List.pairwise_mergeSort o n _) bo ((List.mergeSort_perm _ _).trans (PU.map _));simp only [decide_eq_true_eq] at d e;omega
theorem UN (vL:yt) (vM:Dq) {m:Nat} {D:DataW Value} (h:aM w F p s S gi ci m D gr cr) (aT:S.puts.length+1<=5000000000000):
  Calls prog 69 #[pQ p] w λe w'=>∃a c,e= .returned (.slice a (aG S s).length c)/\(aG S s≠ []->∃g,a=some (aD g 0)/\w.heap.size<=g/\ay w' 3 g c (yr (aG S s)))/\bW w w':=by
 obtain⟨J,rt,gv,dr,ec⟩:=info_parts Dh;have O:=bD h.dj;have AY:=h.lt m h.fm;have H:=yh h;clear h;go_in;go_wp2_with (at_range;refine wpList_range_own _ rfl _ 104 rfl 3 62 fX underlying104 Rs m S.puts.length D rfl H.o.map ?_;intro w0 pg uD xZ;go_frame);have fo:=(bi _ w).grown uD (bP _) (λj l=>by cases l);clear uD;go_loopw [3,4] (λv _ wr=>∃(left:Lit->Bool) (iN:Nat) (ks:List Nat),wr.ranges prog 3 Rs m w.heap.size S.puts.length D left iN/\wr.ownsRow (w.heap.size+1) 3 1 v ks.length (yr ks)/\
   ks.Nodup/\(∀k,k∈ks↔ar S.puts k≠ []/\left (kk k)=false)/\bW w wr/\ks.length+iN<=S.puts.length/\w.heap.size+1<=wr.heap.size)
    (λ_ _ wr=>wr.rangeLeft m w.heap.size)
 case atStart=>
  refine⟨_,_, [],pg,World.ownsRow_nil _ _ _ _,List.nodup_nil,λk=>?_,fo,by simpa using H.o.map.size_le,by omega⟩;constructor
  .intro q;cases q
  .rintro ⟨r,t⟩;rw [H.o.db.has r] at t;cases t
 case round=>
  clear pg fo xZ;obtain⟨left,iN,ks,mI,aY,IR,rj,i,nY,ef⟩:=hrel;go_wp2_with (at_next;refine wpList_next_ranges _ rfl _ rfl 3 fX Rs (Value.int .i64) MF (λK L gF=>by obtain⟨x,rfl,_⟩:=Maps.keyOf_int_inv underlying3 gF;exact⟨x,rfl⟩) rX m w.heap.size S.puts.length _ _ _ rfl mI ?_ ?_)
  .intro _ vJ;have yu:∀k,k∈ks↔ar S.puts k≠ []:=λk=>by rw [rj,vJ];simp
   have Jm:=FD H.o.ok IR yu;have d:ks.length=(aG S s).length:=by
    have:=congrArg List.length Jm;rw [List.length_mergeSort] at this;simpa using this
   have B8:ks= []->aG S s= []:=λe=>by rw [e] at d;exact List.eq_nil_of_length_eq_zero d.symm
   rcases aY.2 with ⟨rfl,I⟩|⟨g,f,cur,rfl,T,sd,R,A,C,n⟩
   .have eF:=B8 (List.eq_nil_of_length_eq_zero I);have fZ:=vM wr;clear aY rj yu Jm mI H vL vM;go_wp2_with (go_at_call 125;refine fZ.mono ?_;rintro e N ⟨rfl,A3⟩);go_ret;exact⟨none,0,by simp [eF],λh=>absurd eF h,i.trans (A3.mono i.size)⟩
   .have TY:ay wr 3 g f ((ks.map (λk:Nat=>(k:Int))).map (Value.int .i64)):=by
     rw [LL];refine⟨cur,sd,by simpa using C,?_,A⟩;simp only [Nat.mul_one] at n;rw [show (yr ks).length=ks.length by simp [yr]];exact n
    have l6:=vL g f _ wr TY (by simp;omega);simp only [List.length_map] at l6;rw [Jm] at l6;have MM:=yh d;clear aY rj yu Jm mI H vL vM TY d n;go_wp2_with (go_at_call 125;refine l6.mono ?_;rintro e N ⟨rfl,Dr,A4⟩);go_ret;refine⟨some (aD g 0),f,?_,λ_=>⟨g,rfl,by omega,?_⟩,i.trans (A4.below (λj l=>by omega) i.size)⟩
    .rw [<-MM.o];rfl
    .rw [<-LL];exact Dr
  .intro x ca Q P L U W y ph gF x8 u ic oR bm fU bo IQ;obtain⟨k,rfl,rfl,r,G⟩:=H.o.db.met gF u ic;have xr:k∉ks:=λq=>by rw [((rj k).1 q).2] at x8;cases x8
   have lL:=aY.kept fU (.inr (λe=>by have:=aY.lt _ e;omega));have aW:=i.grown fU i.size (λj l=>by cases l;exact bP _);have ju:w.heap.size+1<=y.heap.size:=(by omega);have FE:∀j,j∈ks ++ [k]↔ar S.puts j≠ []/\(left (kk j) && !(kk j).sameKey (kk k))=false:=λj=>by
    rw [List.mem_append,List.mem_singleton,rj,ln];by_cases e:j=k
    .subst e;simp [r]
    .simp [e]
   have d:ks.length+1<=5000000000000:=(by omega);obtain⟨PX,yv⟩:=bL FE lL;clear gF u ic bo fU G rj FE lL;go_wp2_with (at_builtin;refine wpList_append_own _ rfl _ _ 23 rfl (w.heap.size+1) 3 J (iV 0) 1 8 underlying23 rt gv dr ec rfl (by decide) _ _ _ rfl (yv.o.alloc _) (aD y.heap.size 0) 1 1 [iV (k:Int)] rfl rfl (cell_one_new _ _ _) (ints_oneCell .i64 [(k:Int)]) (by unfold maxLen;omega) (by omega) (by simp;omega) ?_);intro M z cJ aO jx;have uM:=λj e=>(aY.lt j e).1;have Ji:=(oR.alloc (.cells #[.int .i64 (k:Int)] 3)).kept aO (λe=>by have:=uM m e.symm;omega) (λe=>by have:=uM _ e.symm;omega);have bz:=(aW.alloc (by omega) _).grown aO (by simp;omega) (λj e=>by have:=uM j e;omega);have Dj:w.heap.size+1<=z.heap.size:=(by have:=aO.size;simp at this;omega);have YF:(ks ++ [k]).Nodup:=List.nodup_append.2 ⟨IR,by simp,by intro a E b eC e;simp at eC;subst eC;exact xr (e▸E)⟩;have fE:z.ownsRow (w.heap.size+1) 3 1 M (ks ++ [k]).length (yr (ks ++ [k])):=(by simpa [yr] using cJ);obtain⟨iW,Fx⟩:=bL fE Ji;clear cJ aO jx fE Ji aY yv oR IQ;go_wp2;go_roundw;case rel=>exact⟨_,ph,ks ++ [k],Fx.o,iW.o,YF,PX.o,bz,by simp;omega,Dj⟩
   case measure=>rw [Fx.o.left_eq,mI.left_eq];exact bm
abbrev P3:=Int×Int×Int
def kS (w:World) (a:Option Addr) (n:Nat) (l:List P3):Prop:=
 l.length=n/\(a=none->n=0)/\(∀x,a=some x->∀i (hi:i<l.length),∃b o,x=(aD b o)/\w.cell? ⟨b,o+i*3,none⟩=some (iV l[i].1)/\w.cell? ⟨b,o+i*3+1,none⟩=some (iV l[i].2.1)/\w.cell? ⟨b,o+i*3+2,none⟩=some (iV l[i].2.2))/\
  ∀q∈l,q.1<=9223372036854775807/\q.2.1<=9223372036854775807/\q.2.2<=9223372036854775807
def mh (l:List P3) (i:Nat):P3:=if h:0<l.length then l[i%l.length]'(Nat.mod_lt _ h) else (0,0,0)
def uN (S:DS) (k:Nat) (q:P3):List Int:=jh S k (max q.1 0).toNat (max q.2.1 0).toNat (max q.2.2 0).toNat
def fd (S:DS) (l:List P3) (k:Nat):List Int:=if ar S.puts k= [] then bI S.im k else uN S k (mh l (aG S k).length)
def DS.il (S:DS) (s:Nat) (l:List P3):DS:={S with im:=pj s (fd S l),puts:= [],fuse:= -1,life:=wrap64 (S.life+1)}
theorem pp (S:DS) (s:Nat):aG S (s+1)=aG S s ++ (if ar S.puts s= [] then [] else [s]):=by
 unfold aG;rw [List.range_succ,List.filter_append];congr 1;by_cases h:ar S.puts s= [] <;> simp [h]
theorem yw (S:DS):∀(s j k:Nat),(aG S s)[j]? =some k->(aG S k).length=j
 |0,j,k,h=>by simp [aG] at h
 |s+1,j,k,h=>by
  rw [pp] at h;by_cases a:j<(aG S s).length
  .rw [List.getElem?_append_left a] at h;exact yw S s j k h
  .rw [List.getElem?_append_right (by omega)] at h;split at h
   .simp at h
   .have Xc:j-(aG S s).length=0:=by
     have:=(mG.1 h).1;simp at this;omega
    rw [Xc] at h;simp at h;subst h;omega
theorem PY (h:S.Ok s) (a:k<s) (A B C:Nat):(jh S k A B C).length=512:=by
 unfold jh;rw [dT,List.length_take,List.length_drop,(DS.np h a (j:=A%((ar S.puts k).length+1)) (Nat.le_of_lt_succ (Nat.mod_lt _ (by omega)))),(DS.np h a (j:=B%((ar S.puts k).length+1)) (Nat.le_of_lt_succ (Nat.mod_lt _ (by omega))))];omega
theorem tp (h:S.Ok s) (l:List P3):∀k,k<s->(fd S l k).length=512:=λk a=>by
 unfold fd;split
 .exact PP h.len a
 .exact PY h a _ _ _
theorem UO (S:DS) (im:List Int) (k A B C:Nat) (h:bI im k=bI S.im k):jh {S with im:=im} k A B C=jh S k A B C:=by
 have e:∀j,DS.gB {S with im:=im} k j=S.gB k j:=λj=>by
  unfold DS.gB;split
  .exact h
  .rfl
 unfold jh;rw [e,e]
theorem mJ (h:ks[j]? =some k0) (k:Nat):k∈ks.take (j+1)↔k∈ks.take j\/k=k0:=by
 rw [List.take_add_one,h];simp
theorem Ds (f:ks.Nodup) (h:ks[j]? =some k0):k0∉ks.take j:=by
 obtain⟨c,e⟩:=mG.1 h;intro d;obtain⟨i,b,a⟩:=List.mem_iff_getElem.1 d;rw [List.getElem_take] at a;have:=List.getElem_inj (h₀:=by simp at b;omega) (h₁:=c) f |>.1 (a.trans e.symm);simp at b;omega
theorem yx (dh:S.Ok s) (l:List P3) (YB:im.length=s*512) (a:(aG S s)[j]? =some k)
    (f:∀i,i<s->bI im i=if i∈(aG S s).take j then fd S l i else bI S.im i):
  k<s/\ar S.puts k≠ []/\uN {S with im:=im} k (mh l j)=fd S l k/\∀i,i<s->bI (splice im (k*512) (fd S l k)) i=if i∈(aG S s).take (j+1) then fd S l i else bI S.im i:=by
 obtain⟨eF,d⟩:=nX.1 (gu a);have IR:(aG S s).Nodup:=List.Pairwise.filter _ List.nodup_range;have Jm:=f k eF;rw [aA (Ds IR a)] at Jm;have e:uN {S with im:=im} k (mh l j)=fd S l k:=by
  unfold uN fd;rw [aA d,yw S s j k a,UO S im k _ _ _ Jm];rfl
 refine⟨eF,d,e,λi g=>?_⟩;rw [rZ YB (tp dh l k eF) eF];by_cases c:i=k
 .subst c;rw [aE rfl,aE ((mJ a i).2 (.inr rfl))]
 .rw [aA c,f i g];by_cases b:i∈(aG S s).take j
  .rw [aE b,aE ((mJ a i).2 (.inl b))]
  .rw [aA b,aA (λh=>by rcases(mJ a i).1 h with h|h;exact b h;exact c h)]
theorem uO (dh:S.Ok s) (l:List P3) (YB:im.length=s*512) (c:∀i,i<s->bI im i=if i∈(aG S s).take (aG S s).length then fd S l i else bI S.im i):im=pj s (fd S l):=by
 refine Dl s YB (pk s _ (tp dh l)) (λk a=>?_);rw [c k a,nw s _ (tp dh l) k a,List.take_length];by_cases b:ar S.puts k= []
 .rw [aA (λh=>(nX.1 h).2 b)];simp [fd,b]
 .rw [aE (nX.2 ⟨a,b⟩)]
theorem kS.keeps {l:List P3} (h:kS w a n l) (m:aa F w w') (j:∀x,a=some x->¬F x.block):kS w' a n l:=by
 refine⟨h.1,h.2.1,λx d i k=>?_,h.2.2.2⟩;obtain⟨b,o,rfl,c,f,g⟩:=h.2.2.1 x d i k;have e:=m.block b (World.block_lt_of_cell? _ _ c) (j _ d);exact⟨b,o,rfl,(World.cell?_of_block (w:=w) (a:=(aD b _)) e).trans c,(World.cell?_of_block (w:=w) (a:=(aD b _)) e).trans f,(World.cell?_of_block (w:=w) (a:=(aD b _)) e).trans g⟩
theorem MN {wr:World} {m:Nat} {D:DataW Value} {l:List P3} (h:aM w F p s S gi ci m D gr cr) (hd:aM wr F p s {S with im:=im} gi ci m D gr cr)
    (d:im=pj s (fd S l)) (e:aa F w wr) (AZ:w3.ownsMap prog 3 Rs m 0 (.map [])) (aV:aa (λk=>k=m) wr w3):
  w3.cell? (aD p 2)=some (iV S.fuse)/\w3.frozen? (aD p 2)=false/\w3.cell? (aD p 3)=some (iV S.life)/\w3.frozen? (aD p 3)=false/\
  aP ((w3.setCell ⟨p,2,none⟩ (.int .i64 (-1))).setCell ⟨p,3,none⟩ (.int .i64 (wrap64 (S.life+1)))) F p s (S.il s l)/\aa F w ((w3.setCell ⟨p,2,none⟩ (.int .i64 (-1))).setCell ⟨p,3,none⟩ (.int .i64 (wrap64 (S.life+1)))):=by
 subst d;have a:=hd.qB AZ aV;have b:aM (w3.setCell ⟨p,2,none⟩ (.int .i64 (-1))) F p s {S with im:=pj s (fd S l),puts:= [],fuse:= -1} gi ci m (.map []) gr cr:=
  a.ni (a.set 2 _).2 ((a.set 2 _).1.trans (by simp [bG])) rfl rfl (by simp)
 have jy:aM ((w3.setCell ⟨p,2,none⟩ (.int .i64 (-1))).setCell ⟨p,3,none⟩ (.int .i64 (wrap64 (S.life+1)))) F p s (S.il s l) gi ci m (.map []) gr cr:=
  b.ni (b.set 3 _).2 ((b.set 3 _).1.trans (by simp [bG,DS.il])) rfl rfl (by simp [DS.il])
 refine⟨bH a.dj,ae a.dj 2,fI a.dj,ae a.dj 3,⟨gi,ci,m,_,gr,cr,jy⟩,?_⟩;exact((e.trans aV (λj c=> .inl (c▸h.fm))).trans (aa.setCell (F:=λk=>k=p) w3 (p:=(aD p 2)) rfl _) (λj c=> .inl (c▸h.fp))).trans (aa.setCell (F:=λk=>k=p) _ (p:=(aD p 3)) rfl _) (λj c=> .inl (c▸h.fp))
theorem yy {wr wx:World} {m:Nat} {D:DataW Value} {l:List P3} (aT:S.puts.length+1<=5000000000000) (hd:aM wr F p s {S with im:=im} gi ci m D gr cr)
    (a:bW wr wx) (eF:k<s) (PZ:uN {S with im:=im} k (mh l j)=fd S l k) (A B C:Int) (o:mh l j=(A,B,C)) (f:A<=9223372036854775807) (g:B<=9223372036854775807) (n:C<=9223372036854775807):
  Calls prog 70 #[pQ p,iV (k:Int), .agg #[iV A,iV B,iV C]] wx λe w'=>e= .returned (.tuple #[])/\aM w' F p s {S with im:=splice im (k*512) (fd S l k)} gi ci m D gr cr/\aa F wr w':=by
 refine(UM (hd.agree a.size (λi b=>a.block i (hd.lt i b))) k eF aT A B C (max A 0).toNat (max B 0).toNat (max C 0).toNat (by omega) (by omega) (by omega) f g n).mono ?_;rintro e w' ⟨rfl,c,d⟩;refine⟨rfl,?_,(aa.ah F a).trans d (λi b=> .inl b)⟩;rw [<-PZ,o];exact c
set_option maxRecDepth 100000 in
theorem P0 (vL:yt) (vM:Dq) (hd:aP w F p s S) (aT:S.puts.length+1<=5000000000000) (a:Option Addr) (n c:Nat) (l:List P3) (Dt:kS w a n l) (hn:n<=140737488355328) (X:∀x,a=some x->¬F x.block):
  Calls prog 28 #[pQ p, .slice a n c] w λe w'=>e= .returned (.tuple #[])/\aP w' F p s (S.il s l)/\aa F w w':=by
 obtain⟨U,P,m,D,W,R,h⟩:=hd;have YG:=UN vL vM h aT;have mb:(aG S s).length<=2048:=by
  have:=List.length_filter_le (λk=> !(ar S.puts k).isEmpty) (List.range s);rw [List.length_range] at this;exact jQ this h.ok.hi
 have H:=h;have y:=Dt;clear h Dt;go_in;go_wp2_with (go_at_call 69;refine YG.mono ?_;rintro e w1 ⟨L,Q,rfl,aY,aq⟩);have uP:=aY;have iB:=H.agree aq.size (λj I=>aq.block j (H.lt j I));have eH:=aa.ah F aq;clear YG aY;go_loopw [4,5,6,10] (λ_ _ _ i wr=>∃j:Nat,j<=(aG S s).length/\i=iV (j:Int)/\∃im,aM wr F p s {S with im:=im} U P m D W R/\(∀i,i<s->bI im i=if i∈(aG S s).take j then fd S l i else bI S.im i)/\aa F w wr/\
     (aG S s≠ []->∃g,L=some (aD g 0)/\ay wr 3 g Q (yr (aG S s))/\w.heap.size<=g)) (λ_ _ _ i _=>(aG S s).length-(intOf i).toNat)
 case atStart=>exact⟨0,dU _,rfl,S.im,iB,λi _=>by simp,eH,λh=>by obtain⟨g,e,A,v⟩:=uP h;exact⟨g,e,v,A⟩⟩
 case round=>
  clear iB eH uP;obtain⟨j,I,rfl,im,hd,Du,u,aY⟩:=hrel;have d:=hd;have IS:=Du;clear hd Du;by_cases bm:j<(aG S s).length
  .have cw:(j:Int)<((aG S s).length:Int):=(by omega);obtain⟨g,rfl,v,A⟩:=aY (by intro e;rw [e] at bm;simp at bm);obtain⟨k0,wH⟩:∃k,(aG S s)[j]? =some k:=⟨_,List.getElem?_eq_getElem bm⟩;have Jl:wr.cell? (aD g j)=some (iV (k0:Int)):=v.cell (by simp [yr,wH]);obtain⟨eF,hp,PZ,P5⟩:=yx H.ok l d.ok.len wH IS;have z:=v;have ab6:=P5;clear v P5;by_cases kT:n=0
   .subst kT;have t:mh l j=(0,0,0):=(by simp [mh,y.1]);have IT:=λo=>yy aT d ((bi wr.heap.size wr).alloc (bP _) o) eF PZ 0 0 0 t (by omega) (by omega) (by omega);go_wp2_with (go_at_call 70;refine(IT _).mono ?_;rintro e w5 ⟨rfl,jy,dX⟩);have Fa:=z.agree (dX.block g z.lt (λC=>by have:=H.lt g C;omega));have f:=jy;have ji:=u.trans dX (λi E=> .inl E);clear jy dX IT Jl;go_roundw;case rel=>exact⟨j+1,by omega,by go_num,_,f,ab6,ji,λ_=>⟨g,rfl,Fa,A⟩⟩
    case measure=>simp [intOf];omega
   .obtain⟨x,rfl⟩:∃x,a=some x:=by
     cases a with
     |none=>exact absurd (y.2.1 rfl) kT
     |some x=>exact⟨x,rfl⟩
    have jT:=y.1;have YH:0<l.length:=(by omega);obtain⟨q,t⟩:=bQ (j%n);have hqn:q<n:=(by rw [t];exact Nat.mod_lt _ (by omega));have A5:q<l.length:=(by omega);have r:=y.keeps u X;obtain⟨b,o,rfl,J,p1,p2⟩:=r.2.2.1 x rfl q A5;have O9:mh l j=(l[q].1,l[q].2.1,l[q].2.2):=by
     have T:j%l.length=q:=(by rw [jT,t]);simp only [mh,YH,dif_pos,T]
    obtain⟨M,N,O⟩:=r.2.2.2 l[q] (List.getElem_mem A5);have IT:=λwx hx=>yy (wx:=wx) aT d hx eF PZ _ _ _ O9 M N O;have Z:(j:Int)%(n:Int)=(q:Int):=(by rw [t];push_cast;rfl);have iA:(q:Int)<(n:Int):=(by omega);have Y:=World.block_lt_of_cell? _ _ J;have Xd:=IT;clear IT O9 r t PZ;generalize l[q].1=qa at*;generalize l[q].2.1=qb at*;generalize l[q].2.2=qc at*;go_wp2_with fail;refine(Xd _ ((bi wr.heap.size wr).alloc (bP _) _)).mono ?_;rintro e w5 ⟨rfl,jy,dX⟩;have Fa:=z.agree (dX.block g z.lt (λC=>by have:=H.lt g C;omega));have f:=jy;have ji:=u.trans dX (λi E=> .inl E);clear jy dX Xd Jl J p1 p2;go_wp2;go_roundw;case rel=>exact⟨j+1,by omega,by go_num,_,f,ab6,ji,λ_=>⟨g,rfl,Fa,A⟩⟩
    case measure=>simp [intOf];omega
  .have cw:¬(j:Int)<((aG S s).length:Int):=(by omega);obtain⟨w3,LK,AZ,aV,_⟩:=B6 d.map;have c1:=bD d.dj;have G:j=(aG S s).length:=(by omega);rw [G] at IS;have bR:=uO H.ok l d.ok.len IS;clear G;obtain⟨c2,f2,c3,f3,jy,dX⟩:=MN H d bR u AZ aV;have K:=(aF jy dX);clear jy dX bR AZ aV d IS H u aY;go_wp2
   go_end0
   exact⟨rfl,K⟩
theorem FF:(prog.info? 115).map (λi=>(i.zero,i.size,i.bytes))=some (some (.agg #[iV 0,iV 0,iV 0]),3,24):=by kernel_rfl
def p3 (l:List P3):List Value:=l.flatMap (λq=> [iV q.1,iV q.2.1,iV q.2.2])
theorem yz:∀l:List P3,(p3 l).length=l.length*3
 | []=>rfl
 |q :: l=>by have:=yz l;simp only [p3,List.flatMap_cons,dT,List.length_cons,List.length_nil] at this⊢;omega
theorem YI (l:List P3):∀v∈p3 l,v.oneCell'=true:=by
 intro v a;simp only [p3,List.mem_flatMap] at a;obtain⟨q,_,h⟩:=a;simp at h;rcases h with rfl|rfl|rfl <;> rfl
theorem P6:∀(l:List P3) (i:Nat) (a:i<l.length),(p3 l)[i*3]? =some (iV l[i].1)/\(p3 l)[i*3+1]? =some (iV l[i].2.1)/\(p3 l)[i*3+2]? =some (iV l[i].2.2)
 |q :: l,0,_=>by simp [p3]
 |q :: l,i+1,a=>by
  have:=P6 l i (by simpa using a);have e:p3 (q :: l)= [iV q.1,iV q.2.1,iV q.2.2] ++ p3 l:=rfl;rw [e,List.getElem?_append_right (by simp;omega),List.getElem?_append_right (by simp;omega),List.getElem?_append_right (by simp;omega)];simp only [List.length_cons,List.length_nil,List.getElem_cons_succ];rw [show (i+1)*3-(0+1+1+1)=i*3 by omega,show (i+1)*3+1-(0+1+1+1)=i*3+1 by omega,show (i+1)*3+2-(0+1+1+1)=i*3+2 by omega];exact this
theorem YJ {b o:Nat} {l:List P3} (h:kS w (some (aD b o)) n l) (j:Nat) (v:Value) (a:(p3 l)[j]? =some v):w.cell? (((aD b o):Addr).add j)=some v:=by
 rw [aK];have p:=(mG.1 a).1;rw [yz] at p;obtain⟨i,t,q,rfl⟩:∃i t,t<3/\j=i*3+t:=⟨j / 3,j%3,by omega,by omega⟩;have c:i<l.length:=by omega
 obtain⟨g,k,m⟩:=P6 l i c;obtain⟨s,u,r,d,e,f⟩:=h.2.2.1 _ rfl i c;cases r;rw [<-Nat.add_assoc]
 match t,q with
 |0,_=>rw [Nat.add_zero] at a⊢;rw [g] at a;rw [d];exact a
 |1,_=>rw [k] at a;rw [e];exact a
 |2,_=>rw [m] at a;rw [f];exact a
theorem ab7 {l:List P3} (c:l.length=n) (a:∀q∈l,q.1<=9223372036854775807/\q.2.1<=9223372036854775807/\q.2.2<=9223372036854775807) (h:w.heap[g]? =some (.cells (p3 l).toArray 115 (0,0))):kS w (some (aD g 0)) n l:=by
 refine⟨c,(λh=>by cases h),λx d i b=>?_,a⟩;cases d;obtain⟨e,f,j⟩:=P6 l i b;refine⟨g,0,rfl,?_,?_,?_⟩<;> (simp only [World.cell?,h,Nat.zero_add];simpa using ‹_›)
theorem MO (w:World) (s:TypeId) (g n:Nat) (a:Option Addr) (c d:Nat) (cur:Array Value) (l:List P3) (j:w.heap[g]? =some (.cells cur 115 (0,0))) (aor:cur.size=n*3) (f:kS w a n l):
  ∃w2,(Builtin.copy_ #[37,37] s #[.slice (some (aD g 0)) n d, .slice a n c]).run prog w= .ok (goInt n) w2/\
   w2.heap[g]? =some (.cells (p3 l).toArray 115 (0,0))/\aa (λk=>k=g) w w2/\w2.heap.size=w.heap.size:=by
 have m:=f.1;have BV:Nat.min n n=n:=Nat.min_self n;obtain⟨t,p,_,q,_⟩:=info_parts FF;by_cases h0:n=0
 .subst h0;obtain rfl:l= []:=List.eq_nil_of_length_eq_zero m;have i:cur= #[]:=Array.eq_empty_of_size_eq_zero (by omega);subst i;have Xe:=λx=>by simpa using run_loadCells_list (P:=prog) w x [] (by simp)
  refine⟨w,?_,j,aa.refl _ _,rfl⟩;cases a <;> simp [Builtin.copy_,run_underlying underlying37,Builtin.lenOf,Builtin.firstCells,sizeOf,typeInfo,p,storeCells,Xe]
 .obtain⟨x,rfl⟩:∃x,a=some x:=by
   cases a with
   |none=>exact absurd (f.2.1 rfl) h0
   |some x=>exact⟨x,rfl⟩
  obtain⟨b,o,rfl,_⟩:=f.2.2.1 x rfl 0 (by omega);have Xe:=run_loadCells_list (P:=prog) w (aD b o) (p3 l) (YJ f);rw [yz,m] at Xe;have bt:=run_storeCells_at prog g 0 115 (p3 l) 0 cur w j (by rw [yz];omega) (YI l);have e:(List.take (0+0) cur.toList ++ p3 l ++ List.drop (0+0+(p3 l).length) cur.toList).toArray=(p3 l).toArray:=by
   rw [yz,List.drop_of_length_le (by simp;omega)];simp
  rw [e] at bt;refine⟨w.setRow g (p3 l).toArray,?_,?_,⟨rfl,rfl,rfl,by simp,λk _ r=>setRow_other w g k _ r⟩,by simp⟩
  .simp [Builtin.copy_,run_underlying underlying37,Builtin.lenOf,Builtin.firstCells,sizeOf,typeInfo,p,q,BV,Xe,bt]
  .exact setRow_heap w g _ _ 115 _ j
theorem kS.later {l:List P3} (h:kS w a n l) (b:bW w w'):kS w' a n l:=h.keeps (aa.ah (λ_=>False) b) (λ_ _ h=>h)
theorem MP (a:Option Addr) (n c:Nat) (l:List P3) (w:World) (s:24*n<=140737488355328) (i:kS w a n l):
  Calls prog 29 #[.slice a n c] w λe w'=>∃g,e= .returned (.slice (some (aD g 0)) n n)/\w.heap.size<=g/\kS w' (some (aD g 0)) n l/\bW w w':=by
 obtain⟨q,p,gv,dr,ec⟩:=info_parts FF;go_in;go_wp2_with (at_make;refine wpList_make_full _ rfl _ _ 37 rfl w.heap.size 115 q _ 3 underlying37 p gv dr _ _ _ _ n rfl rfl ?c1 ?c2 ?c3 ?c4 ?c5 ?_);case c1=>rfl
 case c2=>rfl
 case c3=>rw [ec];omega
 case c4=>unfold maxLen;omega
 case c5=>exact bP _
 intro w1 az aO;have b:=(bi _ w).grown aO (bP _) (by intro k d;cases d);have ed:=i.later b;obtain⟨_,⟨f,_⟩|⟨r,j,cur,f,_,m,_,_,nY,_⟩⟩:=az
 .cases f
 cases f;obtain⟨t,bC,o,d,_⟩:=MO w1 3 w.heap.size n a c n cur l m nY ed;go_wp2;go_ret;exact⟨w.heap.size,rfl,bP _,ab7 (n:=n) i.1 ed.2.2.2 o,b.trans (d.below (λk h=>by omega) b.size)⟩
end Go.Proofs.YtenlkgicpllbhaaGreat
