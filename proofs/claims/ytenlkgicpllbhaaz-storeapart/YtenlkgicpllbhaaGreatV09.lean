import Derived.Test.YtenlkgicpllbhaaGreatV01
import Derived.Test.YtenlkgicpllbhaaGreatV05
import Derived.Test.YtenlkgicpllbhaaGreatV06
import Derived.Test.YtenlkgicpllbhaaGreatV07
import Derived.Test.YtenlkgicpllbhaaGreatV08
set_option maxRecDepth 20000
set_option maxHeartbeats 8000000
set_option linter.all false
namespace Go.Proofs.YtenlkgicpllbhaaGreat
open Go.Proofs.Tryz
open Go.RowKit Go.Maps
variable {cs ov:CM} {S S':DS} {x:Int} {L:LG} {y:LY} {rs:List (List Int)} {d l:List Int} {E P a blocks c f g hd i j k n p q s:Nat} {R:Nat->PC} {F F7 X:Nat->Prop} {u v:Value} {W w w':World}
namespace B
theorem SH {D:Nat} (h:ax w F p s S D) (cZ:S.fC) (f n:Nat) (X:f+2+n<=s) (iQ:1<=n) (hn:n<=256) (W:S.fuse≠0) (aT:S.puts.length+1<=4000000000000):
  Calls prog 153 #[kw p f n] w λe w'=>∃v,e= .returned (.tuple #[v,iV 0])/\L4 w.heap.size w' n (λi=>cF (S.now (f+2+i))) v/\ax w' F p s S (D+n)/\aa F w w':=by
 obtain⟨i0,L,gv,dr,ec⟩:=info_parts JW;have hs:=h.ok.hi;have x:=yh h.lt;have u:=yh (h.boxed (.cells #[.pointer (some ⟨p,0,none⟩), .int .i64 f, .int .i64 n] 144));have t:=yh cZ;clear h cZ;go_in;go_wp2_with (at_make;refine wpList_make_full _ rfl _ _ 186 rfl (w.heap.size+1) 230 i0 _ 5 underlying186 L gv dr _ _ _ _ n rfl rfl ?c1 ?c2 ?c3 ?c4 ?c5 ?_);case c1=>rfl
 case c2=>rfl
 case c3=>rw [ec];omega
 case c4=>unfold maxLen;omega
 case c5=>simp
 intro w1 az aO;have aq:Below (w.heap.size+1) (w.alloc (.cells #[.pointer (some ⟨p,0,none⟩), .int .i64 f, .int .i64 n] 144)) w1:=(bi _ _).grown aO (by simp) (by intro k M;cases M);obtain⟨_,⟨J,_⟩|⟨g',T,cur,J,uD,H,_,_,nY,_⟩⟩:=az
 .cases J
 cases J;have dF:=(aq.block _ (by omega)).trans (heap_alloc_new _ _);have cN:=yh ((yh (aI w (.cells #[.pointer (some ⟨p,0,none⟩), .int .i64 f, .int .i64 n] 144))).out.trans (aq.mono (by omega)));have bm:=aw H;have Ef:Yh (gS w1 w1.heap.size (w.heap.size+1) n 0 (λi=>cF (S.now (f+2+i)))):=⟨⟨cur,H,nY⟩,λi L=>by omega⟩;obtain⟨Rx,P⟩:=bL (u.o.later (by show Below _ _ _;rw [World.size_alloc];exact aq)) dF;have l:Yh (¬F w.heap.size/\¬F (w.heap.size+1)):=⟨λh=>by have:=x.o _ h;omega,λh=>by have:=x.o _ h;omega⟩;obtain⟨R,G⟩:∃R,R=(λi=>cF (S.now (f+2+i))):=⟨_,rfl⟩;rw [<-G] at Ef;have tU:=yh G;clear aO aq dF H uD nY G;go_wp2;go_loopw [13] (λi wr=>∃k:Nat,k<=n/\i=iV k/\gS wr w1.heap.size (w.heap.size+1) n k R/\ax wr F p s S (D+k)/\aa (λj=>F j\/j=w.heap.size+1) w1 wr) (λi _=>n-(intOf i).toNat);case atStart=>exact⟨0,dU _,rfl,Ef.o,Rx.o,aa.refl _ _⟩
 case round=>
  obtain⟨k,M,rfl,Mv,hd,fP⟩:=hrel;by_cases q:k<n
  .have q':(k:Int)<(n:Int):=(by omega);have dF:=ew P.o fP (λh=>by rcases h with h|h;exact l.o.1 h;omega);have K:=aL dF;have c1:=bD dF;have c2:=bH dF;have E:=λwx=>LM p f n k wx (by omega) (by omega) (by omega) (by omega) (by omega);rw [show (f:Int)+2+(k:Int)%(n:Int)=((f+2+k:Nat):Int) by rw [Int.emod_eq_of_lt (by omega) (by omega)];omega] at E;obtain⟨H1,z,sH,CP,b⟩:=UE E Mv hd fP dF;clear E Mv hd fP dF;go_wp2_with fail;go_region_held3 (λw'=>w'.cell? (aD w.heap.size 0)=some (pQ p)/\w'.cell? (aD w.heap.size 1)=some (iV (f:Int))/\w'.cell? (aD w.heap.size 2)=some (iV (n:Int)))
    (first|exact⟨K,c1,c2⟩|exact⟨aL l8,bD l8,bH l8⟩|exact⟨aL tB,bD tB,bH tB⟩)
    (first
     |(go_at_call 192;refine(H1.o _).mono ?_;rintro e w2 ⟨rfl,aW⟩;have bz:=(ai (bi wr.heap.size wr)).trans aW;have l8:=(bz.block _ (aw b.o)).trans b.o;have cC:=sH.o.later bz)
     |(go_at_call 39;refine(zC cC (f+2+k) (by omega) aT W).mono ?_;rintro e w3 ⟨v,rfl,Y,g,aV⟩;have tB:=ew l8 aV l.o.1))
   obtain⟨Q,U,rfl,zJ,Zr⟩:=Y;have dV:=(CP.o.trans (aa.ah (λ_=>False) bz) (λ_ h=>h.elim)).trans aV (λ_ h=> .inl (.inl h));have SI:=((z.o.au (aa.ah (λ_=>False) bz) (λh=>h) (λ_ h=>h.elim)).au aV l.o.2 (λj a=>by have:=x.o j a;omega));have I:=Gb Q _ U (S.now (f+2+k)) w3 zJ (t.o.now _);rw [show cF (S.now (f+2+k))=R k by rw [tU.o]] at I;obtain⟨I9,U9,L0⟩:=jS SI g dV;clear aW bz l8 tB cC g aV dV SI zJ Zr K c1 c2;go_wp2_with fail;refine I.mono ?_;rintro e N ⟨m,r,rfl,GH,aeB,fe⟩;have ub:=I9.o.au (aa.ah (λ_=>False) fe) (λh=>h) (λ_ h=>h.elim);have vS:=L0.o.size;have dZ:N.there (w.heap.size+1) (k*5) (eI ((R k).e:Int) ((R k).p:Int) ((R k).i:Int) ((R k).c:Int) m (R k).d.length r).size:=λj a=>by
    obtain⟨v,e⟩:=ub.spot q j a;exact⟨by rw [e];rfl,ub.fz _⟩
   have A:=yh dZ;have fZ:=ub.snoc q (by omega) m r GH (λy Z=>by have:=aeB y Z;omega);have eF:=tK N (w.heap.size+1) (k*5) (iV ((R k).e:Int)) (iV ((R k).p:Int)) (iV ((R k).i:Int)) (iV ((R k).c:Int)) (.slice m (R k).d.length r);have dX:=(L0.o.trans (aa.ah (λ_=>False) fe) (λ_ h=>h.elim)).trans eF (λ_ h=> .inl (.inr h));have jy:=(U9.o.later fe).au eF (λj a e=>l.o.2 (e▸a));have O:=yh (aF fZ (aF jy dX));have TZ:(0:Int)<=(k:Int):=(by omega);clear ub fZ eF dX jy GH aeB fe I dZ;go_wp2_with (refine wpList_store_mid rfl 230 _ _ rfl (w.heap.size+1) (k*5) (eI ((R k).e:Int) ((R k).p:Int) ((R k).i:Int) ((R k).c:Int) m (R k).d.length r) rfl rfl ?s1 ?s2 ?s3 ?_);case s1=>exact A.o
   case s2=>exact j1
   case s3=>simp [Value.oneCell']
   go_roundw;case rel=>exact⟨k+1,by omega,by go_num,O.o⟩
   case measure=>simp [intOf];omega
  .have q':¬(k:Int)<(n:Int):=(by omega);obtain rfl:k=n:=(by omega);have C:=yh (aF Mv (aF hd fP));clear Mv hd fP;go_wp2;go_ret2;refine⟨_,rfl,⟨w.heap.size+1,w1.heap.size,rfl,by omega,by omega,tU.o▸C.o.1⟩,C.o.2.1,?_⟩;exact(aa.ah F cN.o).trans C.o.2.2 (λj a=>by
    rcases a with a|a
    .exact .inl a
    .exact .inr (by omega))
end B
section
namespace B
section
variable {w:World} {F:Nat->Prop} {p s l cR:Nat} {S:DS} {L:LG}
theorem aaj (h:ax w F p s S cR) (cZ:S.fC) (f n:Nat) (a:f+2+n<=s) (iQ:1<=n) (c:n<=256) (b:S.fuse≠0) (aT:S.puts.length+1<=4000000000000):
  Calls prog 153 #[kw p f n] w λe w'=>∃v,e= .returned (.tuple #[v, .int .i64 0])/\L4 w.heap.size w' n (dW S f) v/\ax w' F p s S (cR+n)/\aa F w w':=SH h cZ f n a iQ c b aT
theorem KS (h:ax w F p s S cR) (m:cQ w l p L) (c:¬F l) (cZ:S.fC) (X:L.f+2+L.n<=s) (iQ:1<=L.n) (q:L.n<=256) (O:S.fuse≠0) (aT:S.puts.length+1<=4000000000000):
  Calls prog 109 #[.pointer (some ⟨l,0,none⟩)] w λe w'=>pM w' w.heap.size l p L S e/\ax w' F p s S (cR+2+L.n)/\aa (λk=>F k\/k=l) w w':=by
 obtain⟨o,bm,C,D,E,Om⟩:=kQ (Vz h L.f L.n aT O (by omega) (cZ.now _) (cZ.now _)) m.lt m.c0 m.c1 m.c2 ((λi=>j0 (cZ.now (L.f+2+i))));have N:=λw1 (iB:ax w1 F p s S (cR+2))=>aaj iB cZ L.f L.n X iQ q O aT;unfold pM;change Calls _ _ _ _ (λe w'=>e= .returned (.tuple #[.int .i64 ((bV S L.f).1:Int), .int .i64 ((bV S L.f).2.1:Int), .int .i64 ((bV S L.f).2.2:Int)])/\ax w' F p s S (cR+2)/\aa F w w') at o;by_cases t:(bV S L.f).2.2=0
 .rw [t] at o;have P:=(xE (S:=S) (f:=L.f)) t;simp only [aA (λh:¬(bV S L.f).2.2=0=>h t)];by_cases u:ia S L.f L.n=1073741824
  .simp only [aE u];have R:(max ((bV S L.f).1:Int) (rtop (dW S L.f) L.n:Int) == 1073741824)=true:=(by unfold ia at u;rw [beq_iff_eq];omega);go_in;go_wp2_with fail;refine fk o λw1 iB eH=>?_;have cm:=m.au eH c;obtain⟨C,D,E⟩:=jw cm.c0 cm.c1 cm.c2;go_wp2_with fail;refine(N w1 iB).mono ?_;rintro e w2 ⟨v,rfl,⟨g,B,rfl,W,z,r⟩,cC,aX⟩;go_wp2_with fail;refine(L5 r q).mono ?_;rintro e a ⟨rfl,bz⟩;have gZ:=(cm.au aX c).later bz;obtain⟨c5,H,I,Q,J,K,M,T⟩:=rV gZ.c5 gZ.c6 gZ.c7 gZ.c8 (gZ.fz 5) (gZ.fz 6) (gZ.fz 7) (gZ.fz 8);have aV:aa (λk=>F k\/k=l) w (a.setCell ⟨l,8,none⟩ (.int .i64 (max ((bV S L.f).1:Int) (rtop (dW S L.f) L.n:Int)))):=(((eH.trans aX (λ_ h=> .inl h)).trans (aa.ah (λ_=>False) bz) (λ_ h=>h.elim)).mono (λ_ h=> .inl h)).trans (aJ (F:=λk=>F k\/k=l) a (.inr rfl) 8 _) (λ_ h=> .inl h);have d:ax (a.setCell ⟨l,8,none⟩ (.int .i64 (max ((bV S L.f).1:Int) (rtop (dW S L.f) L.n:Int)))) F p s S (cR+2+L.n):=(cC.later bz).au (aJ (F:=λk=>k=l) a rfl 8 _) (λk j e=>c (e▸j));go_wp2_with fail;go_ret2;exact⟨rfl,aF d aV⟩
  .simp only [aA u];have R:(max ((bV S L.f).1:Int) (rtop (dW S L.f) L.n:Int) == 1073741824)=false:=(by unfold ia at u;rw [eG];omega);go_in;go_wp2_with fail;refine fk o λw1 iB eH=>?_;have cm:=m.au eH c;obtain⟨C,D,E⟩:=jw cm.c0 cm.c1 cm.c2;go_wp2_with fail;refine(N w1 iB).mono ?_;rintro e w2 ⟨v,rfl,⟨g,B,rfl,W,z,r⟩,cC,aX⟩;go_wp2_with fail;refine(L5 r q).mono ?_;rintro e a ⟨rfl,bz⟩;have gZ:=(cm.au aX c).later bz;obtain⟨H,I,Q,J,K,M,T⟩:=nW gZ.c6 gZ.c7 gZ.c8 (gZ.fz 5) (gZ.fz 6) (gZ.fz 7) (gZ.fz 8);have aV:aa (λk=>F k\/k=l) w (a.setCell ⟨l,8,none⟩ (.int .i64 (max ((bV S L.f).1:Int) (rtop (dW S L.f) L.n:Int)))):=(((eH.trans aX (λ_ h=> .inl h)).trans (aa.ah (λ_=>False) bz) (λ_ h=>h.elim)).mono (λ_ h=> .inl h)).trans (aJ (F:=λk=>F k\/k=l) a (.inr rfl) 8 _) (λ_ h=> .inl h);have d:ax (a.setCell ⟨l,8,none⟩ (.int .i64 (max ((bV S L.f).1:Int) (rtop (dW S L.f) L.n:Int)))) F p s S (cR+2+L.n):=(cC.later bz).au (aJ (F:=λk=>k=l) a rfl 8 _) (λk j e=>c (e▸j));have dr:=eH.size;have U:=QW g L.n (bV S L.f).1 (bV S L.f).2.1 (dW S L.f) _ B ((r.au (aa.ah (λ_=>False) bz) (λh=>h) (λ_ h=>h.elim)).au (aJ (F:=λk=>k=l) a rfl 8 (.int .i64 (max ((bV S L.f).1:Int) (rtop (dW S L.f) L.n:Int)))) (by omega) (λk j=>by omega)) iQ q P.2.2 P.2.1 (λi=>(Om i).2.2.2.2.1) (λi=>by have:=(Om i).2.2.2.1;unfold dW;omega);have x:=(gZ.J0 (max ((bV S L.f).1:Int) (rtop (dW S L.f) L.n:Int)) (ia S L.f L.n) (by unfold ia;omega));have y:=(aF d aV);go_wp2_with fail;refine U.mono ?_;rintro e w4 ⟨v,hd,rs,rfl,pi,Y,Z,fe⟩;have iR:=x.later fe;have gZ.c5:=iR.c5;obtain⟨H,I,J,K,M,Zi,eF⟩:=nW iR.c6 iR.c7 (iR.fz 5) (iR.fz 6) (iR.fz 7) y.2.size (((aJ (F:=λk=>k=l) w4 rfl 5 (.int .i64 ((bV S L.f).1:Int))).trans (aJ (F:=λk=>k=l) _ rfl 6 (.int .i64 ((bV S L.f).2.1:Int))) (λ_ h=> .inl h)).trans (aJ (F:=λk=>k=l) _ rfl 7 (.int .i64 (hd:Int))) (λ_ h=> .inl h));have A:=(aF (Told.mk ((((pi.wT (b:=l) (by omega) 5 (.int .i64 ((bV S L.f).1:Int))).wT (b:=l) (by omega) 6 (.int .i64 ((bV S L.f).2.1:Int))).wT (b:=l) (by omega) 7 (.int .i64 (hd:Int))).low Zi (λ_ h=>h)) Y Z (iR.marked (bV S L.f).1 (bV S L.f).2.1 hd)) (aF ((y.1.later fe).au eF (λk j e=>c (e▸j))) ((y.2.trans (aa.ah (λ_=>False) fe) (λ_ h=>h.elim)).trans (eF.mono (G:=λk=>F k\/k=l) (λ_ h=> .inr h)) (λ_ h=> .inl h))));go_wp2_with fail;go_ret2;exact⟨⟨_,_,_,rfl,A.1⟩,A.2⟩
 .have d0:(((bV S L.f).2.2:Int) == 0)=false:=by rw [eG];omega
  simp only [aE (λh=>t h:¬(bV S L.f).2.2=0)];go_in;go_wp2_with fail;refine fk o λw1 iB eH=>?_;go_wp2_with fail;go_ret2;exact⟨rfl,aF (iB.le (by omega:cR+2<=cR+2+L.n)) (eH.mono (G:=λk=>F k\/k=l) (λ_ h=> .inl h))⟩
end
end B
end
section
namespace B
def oRd (S:DS) (s:Nat) (f n:Int):Nat:=if cq S s f n≠0 then 0 else n.toNat+2
section
variable {w:World} {F:Nat->Prop} {p s cR:Nat} {S:DS}
theorem SJ (h:ax w F p s S cR) (cZ:S.fC) (f n:Int) (aT:S.puts.length+500<=4000000000000):
  Calls prog 55 #[pQ p,iV f,iV n] w λe w'=>J1 w w' p s S f n e/\ax w' F p s (bu S s f n).2 (cR+oRd S s f n)/\aa F w w':=by
 have A:=h.lt;have Dp:¬F w.heap.size:=λm=>by have:=h.lt _ m;omega
 have z:=(aI w (.cells #[.pointer (some ⟨p,0,none⟩), .int .i64 f, .int .i64 n] 144));have rl:(w.alloc (.cells #[.pointer (some ⟨p,0,none⟩), .int .i64 f, .int .i64 n] 144)).heap[w.heap.size]? =some (.cells #[.pointer (some ⟨p,0,none⟩), .int .i64 f, .int .i64 n] 144 (0,0)):=heap_alloc_new _ _;have wI:=h.boxed (.cells #[.pointer (some ⟨p,0,none⟩), .int .i64 f, .int .i64 n] 144);have m:=tI wI f n;unfold J1 bu oRd;by_cases q:cq S s f n=0
 .simp only [aA (λh:¬cq S s f n=0=>h q)];obtain⟨Y6,a,b,rfl,rfl,oz,aq,aW⟩:=fM q;rw [q] at m;simp only [Int.toNat_natCast];have C:=(λ(c:World) (l:Nat) (cC:ax c F p s S.take cR) (M:cQ c l p (LG.new S a b)) (rB:¬F l)=>(KS cC M rB cZ.take oz (by show 1<=b;omega) aW Y6 (by show S.puts.length+1<=_;omega)).mono (λe w' h=>aF h.1.Zf (aF (show ax w' F p s S.take (cR+2+b) from h.2.1) h.2.2)));by_cases D:(bV S a).2.2=0
  .have XE:=D;simp only [aA (λh:¬(bV S a).2.2=0=>h D)];by_cases E:ia S a b=1073741824
   .have Cr:=E;simp only [aE E];simp only [aE (show (41:Int)≠0 by decide)];go_in;go_wp2_with fail;refine bE m λw1 g=>?_;have jA:w1.heap[w.heap.size]? =_:=(g.block _ (by simp)).trans rl;have r:=aL jA;have t:=bD jA;have u:=bH jA;have cN:=(z.trans (g.mono (by simp)));go_wp2_with fail;go_region_held3 (λw'=>w'.cell? (aD w.heap.size 0)=some (pQ p)/\w'.cell? (aD w.heap.size 1)=some (iV (a:Int))/\w'.cell? (aD w.heap.size 2)=some (iV (b:Int)))
     (first|exact⟨r,t,u⟩|exact⟨aL l8,bD l8,bH l8⟩|exact⟨aL (tB _),bD (tB _),bH (tB _)⟩)
       ((go_at_call 48;refine(zB (wI.later (g.trans (ai (bi w1.heap.size w1) |>.mono g.size)))).mono ?_;rintro e c ⟨rfl,cC,aX⟩;have l8:=ew (w:=w1.drew) jA aX Dp;have tB:=λo=>(aI c o).block _ (aw l8) |>.trans l8))
    have dr:w.heap.size<w1.heap.size:=(by have:=cN.size;have:=aw jA;omega);have ec:w1.heap.size<=c.heap.size:=aX.size;have fy:cQ (c.alloc (.cells (IX p (LG.new S a b)) 149)) c.heap.size p (LG.new S a b):=heap_alloc_new _ _;have Fg:=(λh:F c.heap.size=>by have:=A _ h;omega:¬F c.heap.size);have oU:aa F w (c.alloc (.cells (IX p (LG.new S a b)) 149)):=((aa.ah F (ai cN)).trans aX (λ_ h=> .inl h)).trans (aa.boxed F _) (λ_ h=> .inl h);go_wp2_with fail;refine(C _ c.heap.size (cC.boxed (.cells (IX p (LG.new S a b)) 149)) fy Fg).mono ?_;rintro e y ⟨j,i,aV⟩;rw [aA (λh=>h XE),aE Cr] at j;subst j;go_wp2_with fail;go_ret3;exact⟨rfl,(aF (i.le (by omega:cR+2+b<=cR+(b+2))) (oU.trans aV (λk h=>h.elim .inl (λe=> .inr (by omega)))))⟩
   .have Cr:=E;simp only [aA E];have H:=(λ(y:World) (i:ax y F p s S.take (cR+2+b))=>vg i (by show S.puts.length+1<=_;omega));generalize S.take.fl s=Y at*;by_cases k:Y.1=0
    .simp only [aA (λh:¬Y.1=0=>h k)];have d:(Y.1 == 0)=true:=(by rw [beq_iff_eq];exact k);go_in;go_wp2_with fail;refine bE m λw1 g=>?_;have jA:w1.heap[w.heap.size]? =_:=(g.block _ (by simp)).trans rl;have r:=aL jA;have t:=bD jA;have u:=bH jA;have cN:=(z.trans (g.mono (by simp)));go_wp2_with fail;go_region_held3 (λw'=>w'.cell? (aD w.heap.size 0)=some (pQ p)/\w'.cell? (aD w.heap.size 1)=some (iV (a:Int))/\w'.cell? (aD w.heap.size 2)=some (iV (b:Int)))
      (first|exact⟨r,t,u⟩|exact⟨aL l8,bD l8,bH l8⟩|exact⟨aL (tB _),bD (tB _),bH (tB _)⟩)
        ((go_at_call 48;refine(zB (wI.later (g.trans (ai (bi w1.heap.size w1) |>.mono g.size)))).mono ?_;rintro e c ⟨rfl,cC,aX⟩;have l8:=ew (w:=w1.drew) jA aX Dp;have tB:=λo=>(aI c o).block _ (aw l8) |>.trans l8))
     have dr:w.heap.size<w1.heap.size:=(by have:=cN.size;have:=aw jA;omega);have ec:w1.heap.size<=c.heap.size:=aX.size;have fy:cQ (c.alloc (.cells (IX p (LG.new S a b)) 149)) c.heap.size p (LG.new S a b):=heap_alloc_new _ _;have Fg:=(λh:F c.heap.size=>by have:=A _ h;omega:¬F c.heap.size);have oU:aa F w (c.alloc (.cells (IX p (LG.new S a b)) 149)):=((aa.ah F (ai cN)).trans aX (λ_ h=> .inl h)).trans (aa.boxed F _) (λ_ h=> .inl h);go_wp2_with fail;refine(C _ c.heap.size (cC.boxed (.cells (IX p (LG.new S a b)) 149)) fy Fg).mono ?_;rintro e y ⟨j,i,aV⟩;rw [aA (λh=>h XE),aA Cr] at j;obtain⟨v,rs,hd,rfl,J⟩:=j;have ma:=(oU.trans aV (λk h=>h.elim .inl (λe=> .inr (by omega))));have G:w.heap.size<=(c.alloc (.cells (IX p (LG.new S a b)) 149)).heap.size:=(by simp;omega);go_wp2_with fail;refine(H y i).mono ?_;rintro e N ⟨rfl,x,dV⟩;have I:=(aF ((J.low (B':=w.heap.size) G).au dV (λk L=>A k L) Fg) (aF (x.le (by omega:cR+2+b<=cR+(b+2))) (ma.trans dV (λ_ h=> .inl h))));go_wp2_with fail;go_ret3;exact⟨⟨_,_,_,_,rfl,by omega,I.1⟩,I.2⟩
    .simp only [aE (λh=>k h:¬Y.1=0)];have d:(Y.1 == 0)=false:=(by rw [eG];exact k);go_in;go_wp2_with fail;refine bE m λw1 g=>?_;have jA:w1.heap[w.heap.size]? =_:=(g.block _ (by simp)).trans rl;have r:=aL jA;have t:=bD jA;have u:=bH jA;have cN:=(z.trans (g.mono (by simp)));go_wp2_with fail;go_region_held3 (λw'=>w'.cell? (aD w.heap.size 0)=some (pQ p)/\w'.cell? (aD w.heap.size 1)=some (iV (a:Int))/\w'.cell? (aD w.heap.size 2)=some (iV (b:Int)))
      (first|exact⟨r,t,u⟩|exact⟨aL l8,bD l8,bH l8⟩|exact⟨aL (tB _),bD (tB _),bH (tB _)⟩)
        ((go_at_call 48;refine(zB (wI.later (g.trans (ai (bi w1.heap.size w1) |>.mono g.size)))).mono ?_;rintro e c ⟨rfl,cC,aX⟩;have l8:=ew (w:=w1.drew) jA aX Dp;have tB:=λo=>(aI c o).block _ (aw l8) |>.trans l8))
     have dr:w.heap.size<w1.heap.size:=(by have:=cN.size;have:=aw jA;omega);have ec:w1.heap.size<=c.heap.size:=aX.size;have fy:cQ (c.alloc (.cells (IX p (LG.new S a b)) 149)) c.heap.size p (LG.new S a b):=heap_alloc_new _ _;have Fg:=(λh:F c.heap.size=>by have:=A _ h;omega:¬F c.heap.size);have oU:aa F w (c.alloc (.cells (IX p (LG.new S a b)) 149)):=((aa.ah F (ai cN)).trans aX (λ_ h=> .inl h)).trans (aa.boxed F _) (λ_ h=> .inl h);go_wp2_with fail;refine(C _ c.heap.size (cC.boxed (.cells (IX p (LG.new S a b)) 149)) fy Fg).mono ?_;rintro e y ⟨j,i,aV⟩;rw [aA (λh=>h XE),aA Cr] at j;obtain⟨v,rs,hd,rfl,J⟩:=j;have ma:=(oU.trans aV (λk h=>h.elim .inl (λe=> .inr (by omega))));go_wp2_with fail;refine(H y i).mono ?_;rintro e N ⟨rfl,x,dV⟩;go_wp2_with fail;go_ret3;exact⟨rfl,aF (x.le (by omega:cR+2+b<=cR+(b+2))) (ma.trans dV (λ_ h=> .inl h))⟩
  .have XE:=D;have K:(((bV S a).2.2:Int) == 0)=false:=(by rw [eG];omega);simp only [aE (λh=>D h:¬(bV S a).2.2=0)];simp only [aE (show (((bV S a).2.2:Nat):Int)≠0 by omega)];go_in;go_wp2_with fail;refine bE m λw1 g=>?_;have jA:w1.heap[w.heap.size]? =_:=(g.block _ (by simp)).trans rl;have r:=aL jA;have t:=bD jA;have u:=bH jA;have cN:=(z.trans (g.mono (by simp)));go_wp2_with fail;go_region_held3 (λw'=>w'.cell? (aD w.heap.size 0)=some (pQ p)/\w'.cell? (aD w.heap.size 1)=some (iV (a:Int))/\w'.cell? (aD w.heap.size 2)=some (iV (b:Int)))
    (first|exact⟨r,t,u⟩|exact⟨aL l8,bD l8,bH l8⟩|exact⟨aL (tB _),bD (tB _),bH (tB _)⟩)
      ((go_at_call 48;refine(zB (wI.later (g.trans (ai (bi w1.heap.size w1) |>.mono g.size)))).mono ?_;rintro e c ⟨rfl,cC,aX⟩;have l8:=ew (w:=w1.drew) jA aX Dp;have tB:=λo=>(aI c o).block _ (aw l8) |>.trans l8))
   have dr:w.heap.size<w1.heap.size:=(by have:=cN.size;have:=aw jA;omega);have ec:w1.heap.size<=c.heap.size:=aX.size;have fy:cQ (c.alloc (.cells (IX p (LG.new S a b)) 149)) c.heap.size p (LG.new S a b):=heap_alloc_new _ _;have Fg:=(λh:F c.heap.size=>by have:=A _ h;omega:¬F c.heap.size);have oU:aa F w (c.alloc (.cells (IX p (LG.new S a b)) 149)):=((aa.ah F (ai cN)).trans aX (λ_ h=> .inl h)).trans (aa.boxed F _) (λ_ h=> .inl h);go_wp2_with fail;refine(C _ c.heap.size (cC.boxed (.cells (IX p (LG.new S a b)) 149)) fy Fg).mono ?_;rintro e y ⟨j,i,aV⟩;rw [aE (λh=>XE h)] at j;subst j;go_wp2_with fail;go_ret3;exact⟨rfl,(aF (i.le (by omega:cR+2+b<=cR+(b+2))) (oU.trans aV (λk h=>h.elim .inl (λe=> .inr (by omega)))))⟩
 .simp only [aE (λh=>q h:¬cq S s f n=0)];have K:(cq S s f n == 0)=false:=by rw [eG];exact q
  go_in;go_wp2_with fail;refine bE m λw1 g=>?_;go_wp2_with fail;go_ret3;exact⟨rfl,(aF (wI.later g) (aa.ah F (z.trans (g.mono (by simp)))))⟩
end
end B
end
section
namespace B
section
variable {w:World} {F:Nat->Prop} {p s l cR:Nat} {S:DS} {L:LG}
theorem OB (h:ax w F p s S cR) (t:cQ w l p L) (a:L.Ok s) (q:¬F l) (cZ:S.fC) (aT:S.puts.length+2<=4000000000000):
  Calls prog 57 #[pQ l] w λe w'=>e= .returned (iV (L.start S s).1)/\ax w' (more F w w') p s (L.start S s).2.1 (cR+2)/\cQ w' l p (L.start S s).2.2/\aa (λk=>F k\/k=l) w w':=by
 obtain⟨i,j,c,bm,O,DJ⟩:=kQ (tJ h t) t h t.lt a.s a.top;unfold LG.start;have u:=(λb (cC:ax b F p s S cR)=>Kj cC L.f L.n (L.top+1) 0 (by omega) (by omega) aT (by have:=a.n1;omega) (cZ.now _) (cZ.now _));go_in;cases hd:L.dead S
 .rw [hd] at i;rw [aA (by decide)];cases r:L.begun
  .rw [aA (by decide)];generalize N:cW S s L.f (((L.top+1:Nat):Int)*4294967296+((0:Nat):Int))=Y at*;by_cases k:Y.1=0
   .rw [aA (λh=>h k)];have d:(Y.1 == 0)=true:=(by rw [beq_iff_eq];exact k);go_wp2_with fail;refine bE i λw1 aq=>?_;have cm:=j.later aq;obtain⟨x,y,z,g,A⟩:=ey cm.c0 cm.c1 cm.c2 cm.c4 cm.c8;rw [r] at g;have m:=u w1 (c.later aq);rw [show ((L.top+1:Nat):Int)=(L.top:Int)+1 by omega,show (((0:Nat):Int))=0 from rfl] at m;go_wp2_with fail;refine fk m λb cC aX=>?_;have fy:=cm.au aX q;obtain⟨I,J,K,M,g,D,E,H,dr,ec⟩:=vH (fy.fz 4) (fy.fz 5) (fy.fz 6) (fy.fz 7) fy.c4 fy.c5 fy.c6 fy.c7 aq.size aX.size;have C:aa (λk=>F k\/k=l) w ((((b.setCell ⟨l,4,none⟩ (.bool true)).setCell ⟨l,5,none⟩ (.int .i64 ((L.top:Int)+1))).setCell ⟨l,6,none⟩ (.int .i64 0)).setCell ⟨l,7,none⟩ (.int .i64 0)):=
       (((((aa.ah (λk=>F k\/k=l) aq).trans aX (λ_ h=> .inl (.inl h))).trans (aJ (F:=λk=>k=l) b rfl 4 _) (λ_ h=> .inl (.inr h))).trans (aJ (F:=λk=>k=l) _ rfl 5 _) (λ_ h=> .inl (.inr h))).trans (aJ (F:=λk=>k=l) _ rfl 6 _) (λ_ h=> .inl (.inr h))).trans (aJ (F:=λk=>k=l) _ rfl 7 _) (λ_ h=> .inl (.inr h))
    have o:ax ((((b.setCell ⟨l,4,none⟩ (.bool true)).setCell ⟨l,5,none⟩ (.int .i64 ((L.top:Int)+1))).setCell ⟨l,6,none⟩ (.int .i64 0)).setCell ⟨l,7,none⟩ (.int .i64 0)) (more F w1 b) p s Y.2 (cR+2):=by
     have dG:∀k,more F w1 b k->¬k=l:=λk a e=>by
      subst e;rcases a with a|a
      .exact q a
      .omega
     exact(((cC.au (aJ (F:=λk=>k=l) b rfl 4 _) dG).au (aJ (F:=λk=>k=l) _ rfl 5 _) dG).au (aJ (F:=λk=>k=l) _ rfl 6 _) dG).au (aJ (F:=λk=>k=l) _ rfl 7 _) dG
    have ef:((((b.setCell ⟨l,4,none⟩ (.bool true)).setCell ⟨l,5,none⟩ (.int .i64 ((L.top:Int)+1))).setCell ⟨l,6,none⟩ (.int .i64 0)).setCell ⟨l,7,none⟩ (.int .i64 0)).heap.size=b.heap.size:=(by simp [World.setCell]);have v:=(aF ((o.mono (G:=more F w ((((b.setCell ⟨l,4,none⟩ (.bool true)).setCell ⟨l,5,none⟩ (.int .i64 ((L.top:Int)+1))).setCell ⟨l,6,none⟩ (.int .i64 0)).setCell ⟨l,7,none⟩ (.int .i64 0))) (λk a=>by
      rcases a with a|a
      .exact .inl a
      .exact .inr ⟨by omega,by rw [ef];exact a.2⟩) (cG (F:=F) (w:=w) c.lt (by rw [ef];omega)))) (aF (fy.started ((L.top:Int)+1) (L.top+1) (by omega)) C))
    go_wp2;go_ret;exact⟨rfl,v⟩
   .rw [aE k];have d:(Y.1 == 0)=false:=(by rw [eG];exact k);go_wp2_with fail;refine bE i λw1 aq=>?_;have cm:=j.later aq;obtain⟨x,y,z,g,A⟩:=ey cm.c0 cm.c1 cm.c2 cm.c4 cm.c8;rw [r] at g;have m:=u w1 (c.later aq);rw [show ((L.top+1:Nat):Int)=(L.top:Int)+1 by omega,show (((0:Nat):Int))=0 from rfl] at m;have cN:=aq;go_wp2_with fail;refine fk m λb cC aX=>?_;go_wp2;go_ret;exact⟨rfl,(aF (cC.from c.lt cN.size aX.size) (aF (cm.au aX q) ((aa.ah (λk=>F k\/k=l) cN).trans aX (λ_ h=> .inl (.inl h)))))⟩
  .rw [aE rfl];go_wp2_with fail;refine bE i λw1 aq=>?_;have g:=(j.later aq).c4;rw [r] at g;go_wp2;go_ret;exact⟨rfl,aF (((c.later aq).more (w:=w)).le (by omega:cR<=cR+2)) (aF (j.later aq) (aa.ah (λk=>F k\/k=l) aq))⟩
 .rw [hd] at i;rw [aE rfl];go_wp2_with fail;refine bE i λw1 aq=>?_;go_wp2;go_ret;exact⟨rfl,aF (((c.later aq).more (w:=w)).le (by omega:cR<=cR+2)) (aF (j.later aq) (aa.ah (λk=>F k\/k=l) aq))⟩
end
end B
end
theorem C3 {R:Nat->PC} {E:Nat} (a:∀q,(R q).d.length<=492):∀{rs:List (List Int)} {P h:Nat},dC R E P rs h->∀d∈rs,d.length<=8364
 | [],_,_,_,d,hd=>by cases hd
 |x :: xs,P,h,⟨k,hk,ht⟩,d,hd=>by
  rcases List.mem_cons.1 hd with rfl|b
  .have e:∀c,(kV R P c).length<=492*c:=λc=>by
    induction c with
    |zero=>simp [mq]
    |succ c f=>rw [iq,dT];have:=a (P+c);omega
   have:=e k;have:=hk.2.1;rw [hk.2.2.2];omega
  .exact C3 a ht d b
theorem wt {R:Nat->PC} {E:Nat} (b:∀q,Bytes (R q).d):∀{rs:List (List Int)} {P h:Nat},dC R E P rs h->∀d∈rs,Bytes d
 | [],_,_,_,d,hd=>by cases hd
 |x :: xs,P,h,⟨k,hk,ht⟩,d,hd=>by
  rcases List.mem_cons.1 hd with rfl|e
  .have f:∀c,Bytes (kV R P c):=λc=>by
    induction c with
    |zero=>intro x a;simp [mq] at a
    |succ c g=>
     rw [iq];intro x a;rcases List.mem_append.1 a with a|a
     .exact g x a
     .exact b _ x a
   rw [hk.2.2.2];exact f k
  .exact wt b ht d e
structure jH (S:DS) (f n:Nat) (rs:List (List Int)) (hd:Nat):Prop where
 t:dC (Rp (dW S f) n) (bV S f).1 (bV S f).2.1 rs hd
 x:∀c d,¬Rec (Rp (dW S f) n) (bV S f).1 hd c d
theorem jH.small {b:Nat} (h:jH S a b rs hd) (cZ:S.fC) (aq:1<=b):rs.length<=b/\(∀r∈rs,Bytes r/\r.length<=1000000)/\(bV S a).2.1<=hd/\hd<=(bV S a).2.1+b:=by
 have d:=dC.round aq (tM (dW S a) b) h.t;have f:=dC.length h.t;have e:=dC.le h.t;refine⟨by omega,λr c=>⟨?_,?_⟩,e,d⟩
 .exact wt (λq=>(j0 (cZ.now (a+2+q%b))).2.2.2.2.2) h.t r c
 .have:=C3 (λq=>(j0 (cZ.now (a+2+q%b))).2.2.2.2.1) h.t r c;omega
def eZ (S:DS) (f n hd:Nat):LG:={LG.new S f n with ep:=(bV S f).1,tail:=(bV S f).2.1,head:=hd,top:=ia S f n}
theorem xQ {b:Nat} (h:jH S a b rs hd) (cZ:S.fC) (d:(bV S a).2.2=0) (g:ia S a b≠1073741824) (oz:a+2+b<=s) (aq:18<=b) (aW:b<=256):(eZ S a b hd).Ok s:=by
 obtain⟨_,_,e,f⟩:=h.small cZ (by omega);have RA:=xE d;have PZ:=xF (n:=b) d;refine⟨oz,aq,aW,RA.2.1,?_,e,f,?_,λc=>by cases c⟩
 .show ia S a b<_;omega
 .show hd<=_;omega
theorem lV (h:(bu S s f n).1=0):cq S s f n=0/\(bV S f).2.2=0/\ia S f n≠1073741824/\bu S s f n=S.take.fl s:=by
 unfold bu at*;simp only [Int.toNat_natCast] at*;split at h
 .rename_i k;exact absurd h k
 .rename_i a;split at h
  .rename_i k;exact absurd (Int.ofNat_eq_zero.1 h) k
  .rename_i b;split at h
   .cases h
   .rename_i c;exact⟨Decidable.of_not_not a,Decidable.of_not_not b,c,by rw [aA a,aA b,aA c]⟩
theorem Es (a b:Nat) (f:Value) (x:Value) (w:World) (c:w.heap[a]? =some (.cells #[f] 53 (0,0))) (d:w.heap[b]? =some (.cells #[x] 49 (0,0))) (dG:a≠b):
  CallsD prog 53 #[.pointer (some ⟨a,0,none⟩), .pointer (some ⟨b,0,none⟩)] (.panicking CF) w λe i w'=>
   e= .returned (.tuple #[])/\i= .panicking [{v:= .iface 49 (.int .i64 6),recovered:=true}]/\w'=(w.setCell ⟨a,0,none⟩ (.pointer none)).setCell ⟨b,0,none⟩ (.int .i64 6):=by
 have ajK:¬b=a:=λe=>dG e.symm;refine callsD_of_wpS func53 rfl λj cs g=>?_;apply wpS_seq;apply wpS_region;simp [wpOpsS,go_sem,recoverD,g,ntmps53,Exit.thenS];refine wpS_cond (t:=true) (by simp [Act.eval,Array.replicate]) ?_;simp only [if_true];apply wpS_region;simp [wpOpsS,go_sem,aL c,ae c 0,aL d,ae d 0,bodyPostS,results,results53]
theorem kL (b c:Nat) (w:World):
  CallsD prog 53 #[.pointer (some ⟨b,0,none⟩), .pointer (some ⟨c,0,none⟩)] .returning w λe f w'=>e= .returned (.tuple #[])/\f= .returning/\w'=w:=by
 refine callsD_of_wpS func53 rfl λa cs d=>?_;apply wpS_seq;apply wpS_region;simp [wpOpsS,go_sem,recoverD,d,ntmps53,Exit.thenS];refine wpS_cond (t:=false) (by simp [Act.eval,Array.replicate]) ?_;simp only [Bool.false_eq_true,if_false];refine wpS_of_wp (wp_skip ?_);cases a
 simp_all [bodyPostS,results,results53]
def jP (S:DS) (s:Nat) (x:Int) (S':DS):Prop:=
   (Sw S s XX x/\x≠0/\S'=S)\/
   (lT (S.now 0) s/\S.fuse≠0/\(((bu S s 1 ((cz (S.now 0)).log:Nat)).1=x/\x≠0/\S'=(bu S s 1 ((cz (S.now 0)).log:Nat)).2)\/
    ((bu S s 1 ((cz (S.now 0)).log:Nat)).1=0/\∃rs hd,jH S 1 (cz (S.now 0)).log rs hd/\
     ((rdAll (cz (S.now 0)).blocks [] rs=none/\x=6/\S'=(bu S s 1 ((cz (S.now 0)).log:Nat)).2)\/
    ∃ov,rdAll (cz (S.now 0)).blocks [] rs=some ov/\
       (((ee (bu S s 1 ((cz (S.now 0)).log:Nat)).2 s (cz (S.now 0)) ov rs).1=x/\x≠0/\S'=(ee (bu S s 1 ((cz (S.now 0)).log:Nat)).2 s (cz (S.now 0)) ov rs).2)\/
        ((ee (bu S s 1 ((cz (S.now 0)).log:Nat)).2 s (cz (S.now 0)) ov rs).1=0/\((eZ S 1 (cz (S.now 0)).log hd).start (ee (bu S s 1 ((cz (S.now 0)).log:Nat)).2 s (cz (S.now 0)) ov rs).2 s).1=x/\S'=((eZ S 1 (cz (S.now 0)).log hd).start (ee (bu S s 1 ((cz (S.now 0)).log:Nat)).2 s (cz (S.now 0)) ov rs).2 s).2.1))))))
theorem aeC {a:World} (bm:∀k,F k->k<w.heap.size) (fy:w.heap.size+1<a.heap.size) (o8:a.heap[w.heap.size]? =some (.cells #[.pointer none] 53 (0,0))) (fU:a.heap[w.heap.size+1]? =some (.cells #[.int .i64 0] 49 (0,0))) (hd:B.ax a F p s S c) (i:aa F w a) (x:Int) (o:Obj):
    ((a.setCell ⟨w.heap.size+1,0,none⟩ (.int .i64 x)).alloc o).heap[w.heap.size]? =some (.cells #[.pointer none] 53 (0,0))/\((a.setCell ⟨w.heap.size+1,0,none⟩ (.int .i64 x)).alloc o).heap[w.heap.size+1]? =some (.cells #[.int .i64 x] 49 (0,0))/\((a.setCell ⟨w.heap.size+1,0,none⟩ (.int .i64 x)).alloc o).heap[a.heap.size]? =some o/\B.ax ((a.setCell ⟨w.heap.size+1,0,none⟩ (.int .i64 x)).alloc o) F p s S c/\aa F w ((a.setCell ⟨w.heap.size+1,0,none⟩ (.int .i64 x)).alloc o)/\((a.setCell ⟨w.heap.size+1,0,none⟩ (.int .i64 x)).alloc o).heap.size=a.heap.size+1:=by
 have b:=aa.setCell (F:=λk=>k=w.heap.size+1) a (p:=⟨w.heap.size+1,0,none⟩) rfl (.int .i64 x);have f:=size_setCell a ⟨w.heap.size+1,0,none⟩ (.int .i64 x);have d:=Below.heap_alloc (a.setCell ⟨w.heap.size+1,0,none⟩ (.int .i64 x)) o;refine⟨(d _ (by omega)).trans ((b.block _ (by omega) (by omega)).trans o8),(d _ (by omega)).trans ?_,?_,?_,?_,by rw [World.size_alloc,f]⟩
 .rw [heap_setCell_same _ _ _ _ _ _ fU];rfl
 .rw [<-f];exact heap_alloc_new _ _
 .exact(hd.au b (λk g e=>by have:=bm _ g;omega)).boxed o
 .exact(i.trans b (λk e=> .inr (by omega))).trans (aa.alloc (λ_=>False) _ o) (λ_ h=>h.elim)
theorem oset {a:World} {y:Int} (bm:∀k,F k->k<w.heap.size\/w.heap.size+2<=k) (o8:a.heap[w.heap.size]? =some (.cells #[u] 53 (0,0))) (fU:a.heap[w.heap.size+1]? =some (.cells #[.int .i64 y] 49 (0,0))) (hd:B.ax a F p s S c):
    ((a.setCell ⟨w.heap.size,0,none⟩ v).setCell ⟨w.heap.size+1,0,none⟩ (.int .i64 x)).heap[w.heap.size]? =some (.cells #[v] 53 (0,0))/\((a.setCell ⟨w.heap.size,0,none⟩ v).setCell ⟨w.heap.size+1,0,none⟩ (.int .i64 x)).heap[w.heap.size+1]? =some (.cells #[.int .i64 x] 49 (0,0))/\B.ax ((a.setCell ⟨w.heap.size,0,none⟩ v).setCell ⟨w.heap.size+1,0,none⟩ (.int .i64 x)) F p s S c/\aa (λk=>k=w.heap.size\/k=w.heap.size+1) a ((a.setCell ⟨w.heap.size,0,none⟩ v).setCell ⟨w.heap.size+1,0,none⟩ (.int .i64 x)):=by
 have b:=aa.setCell (F:=λk=>k=w.heap.size\/k=w.heap.size+1) a (p:=⟨w.heap.size,0,none⟩) (.inl rfl) v;have d:=aa.setCell (F:=λk=>k=w.heap.size\/k=w.heap.size+1) (a.setCell ⟨w.heap.size,0,none⟩ v) (p:=⟨w.heap.size+1,0,none⟩) (.inr rfl) (.int .i64 x);have f:(a.setCell ⟨w.heap.size,0,none⟩ v).heap[w.heap.size]? =some (.cells #[v] 53 (0,0)):=by
  rw [heap_setCell_same _ _ _ _ _ _ o8];rfl
 have g:(a.setCell ⟨w.heap.size,0,none⟩ v).heap[w.heap.size+1]? =some (.cells #[.int .i64 y] 49 (0,0)):=(Below.heap_setCell _ _ _ _ (by simp)).trans fU;refine⟨(Below.heap_setCell _ _ _ _ (by simp)).trans f,?_,?_,b.trans d (λ_ h=> .inl h)⟩
 .rw [heap_setCell_same _ _ _ _ _ _ g];rfl
 .exact hd.au (b.trans d (λ_ h=> .inl h)) (λk i e=>by have:=bm _ i;omega)
theorem OC (h:B.ax w F p s S c) (cZ:S.fC) (aT:S.puts.length+1<=4000000000000) (iZ:S.fuse=0\/¬lT (S.now 0) s):
  Calls prog 18 #[.pointer (some ⟨p,0,none⟩)] w λe w'=>∃x,e= .returned (.tuple #[.pointer none, .int .i64 x])/\jP S s x S/\B.ax w' F p s S (c+1)/\aa F w w':=by
 obtain⟨w1,bN⟩:=bQ ((w.alloc (.cells #[.pointer none] 53)).alloc (.cells #[.int .i64 0] 49));have bK:Below w.heap.size w w1:=by rw [bN];exact bY w _ _
 have rY:w1.heap.size=w.heap.size+2:=by rw [bN];simp
 have o8:w1.heap[w.heap.size]? =some (.cells #[.pointer none] 53 (0,0)):=by rw [bN];exact heap_alloc2_old _ _ _
 have fU:w1.heap[w.heap.size+1]? =some (.cells #[.int .i64 0] 49 (0,0)):=by rw [bN];exact heap_alloc2_new _ _ _
 have bm:=h.lt
 go_enter_defers func18,ntmps18
 go_wp2_with fail;rw [<-bN];refine(uo (h.later bK) cZ aT).mono ?_;rintro e i ⟨y,x,rfl,ox,cC,aX⟩;have ec:=aX.size;have rl:x≠0/\y=XX:=by
  rcases ox with ⟨_,b,D⟩|⟨C,b,_⟩|⟨_,_,b,D⟩
  .exact⟨by omega,b⟩
  .rcases iZ with h|h
   .exact absurd h C
   .exact absurd b h
  .exact⟨by omega,b⟩
 obtain⟨o,rfl⟩:=rl;have z:(jP S s x S):= .inl ⟨ox,o,rfl⟩;have Wo:=(aX.block w.heap.size (by omega) (λd=>by have:=bm _ d;omega)).trans o8;have Ia:=(aX.block (w.heap.size+1) (by omega) (λd=>by have:=bm _ d;omega)).trans fU;have n:(B.ax i F p s S (c+1)/\aa F w i):=⟨cC,(aa.ah F bK).trans aX (λ_ h=> .inl h)⟩;have N:=aL Ia;have O:=ae Ia 0;have A:(x != 0)=true:=by simp [o]
 have fy:w.heap.size+1<i.heap.size:=by omega
 obtain⟨l,m,_,E,G,_⟩:=aeC bm fy Wo Ia n.1 n.2 x (.cells #[.int .i64 0, .int .i64 0, .int .i64 0, .int .i64 0, .int .i64 0] 86)
 dsimp only [Pr]
 go_upto_region 3 with fail
 generalize (i.setCell ⟨w.heap.size+1,0,none⟩ (.int .i64 x)).alloc (.cells #[.int .i64 0, .int .i64 0, .int .i64 0, .int .i64 0, .int .i64 0] 86)=K at*;obtain⟨g,L,P,M,Q⟩:=ey ((aF l (aF m (aF E G)))) (aL l) (ae l 0) (aj m (j:=0) (u:= .int .i64 x) rfl) (ae m 0)
 go_upto_region 4 with fail
 go_region
 obtain⟨q,r,p3,H⟩:=oset (w:=w) (v:= .pointer none) (x:=x) (λk d=> .inl (bm k d)) g.1 g.2.1 g.2.2.1;generalize (K.setCell ⟨w.heap.size,0,none⟩ (.pointer none)).setCell ⟨w.heap.size+1,0,none⟩ (.int .i64 x)=a at*;have Up:Below a.heap.size a a.drew:=ai (bi _ _);have t:(B.ax a.drew F p s S (c+1)/\aa F w a.drew):=⟨p3.later Up,(g.2.2.2.trans H (λk e=> .inr (by omega))).trans (aa.ah (λ_=>False) Up) (λ_ h=>h.elim)⟩;have I:=aj ((Up.block _ (aw q)).trans q) (j:=0) (u:= .pointer none) rfl;have J:=aj ((Up.block _ (aw r)).trans r) (j:=0) (u:= .int .i64 x) rfl;generalize a.drew=w5 at*;go_wp2;refine leaves_cons (f:=53) (args:= #[.pointer (some ⟨w.heap.size,0,none⟩), .pointer (some ⟨w.heap.size+1,0,none⟩)]) (by simp) (by simp [go_sem]) ?_;refine(kL _ _ _).mono ?_;rintro e R Bh ⟨rfl,rfl,rfl⟩;simp [Leaves,settle,results,results18,go_sem,I,J];exact⟨z,t⟩
theorem sQ (h:L.Ok s) (h0:(L.start S s).1=0):(L.start S s).2.2.Ok s/\(L.start S s).2.2.begun=true:=by
 unfold LG.start at*;split
 .rename_i k;rw [aE k] at h0;cases h0
 .rename_i k;rw [aA k] at h0;split
  .rename_i a;rw [aE a] at h0;cases h0
  .rename_i a;rw [aA a] at h0;split
   .rename_i b;rw [aE b] at h0;exact absurd h0 b
   .have c:=h.top;exact⟨⟨h.s,h.n1,h.n2,by show L.top+1<=_;omega,h.top,bP _,by show 0<=_;omega,by show 0<=_;omega,λ_=>by show 0<=_;omega⟩,rfl⟩
theorem ur:∀{ks:List Nat} {l r:List Int} {cs:CM},rdCons ks l=some (cs,r)->Bytes l->∀x∈cs,Bytes x.2
 | [],l,r,cs,h,_=>by
  simp only [rdCons,Option.some.injEq,Prod.mk.injEq] at h;obtain⟨rfl,_⟩:=h;simp
 |k :: ks,l,r,cs,h,hb=>by
  rw [iw] at h;split at h
  .cases h
  .cases a:rdCons ks (l.drop 512) with
   |none=>rw [a] at h;cases h
   |some x=>
    rw [a] at h;simp only [Option.map_some,Option.some.injEq,Prod.mk.injEq] at h;obtain⟨rfl,rfl⟩:=h;intro z b;rcases List.mem_cons.1 b with rfl|b
    .exact hb.take 512
    .exact ur (cs:=x.1) (r:=x.2) a (hb.drop 512) z b
theorem ut {blocks:Nat}:∀{n b:Nat} {l r:List Int} {ks:List Nat},rdNums blocks n b l=some (ks,r)->Bytes l->Bytes r
 |0,b,l,r,ks,h,hb=>by
  simp only [rdNums,Option.some.injEq,Prod.mk.injEq] at h;obtain⟨_,rfl⟩:=h;exact hb
 |n+1,b,l,r,ks,h,hb=>by
  rw [kJ] at h;split at h
  .cases h
  .split at h
   .cases a:rdNums blocks n (le (l.take 4)+1) (l.drop 4) with
    |none=>rw [a] at h;cases h
    |some x=>
     rw [a] at h;simp only [Option.map_some,Option.some.injEq,Prod.mk.injEq] at h;obtain⟨_,rfl⟩:=h;exact ut (ks:=x.1) (r:=x.2) a (hb.drop 4)
   .cases h
theorem Ib (h:rdRec blocks d=some cs) (c:Bytes d):∀x∈cs,Bytes x.2:=by
 unfold rdRec at h;split at h
 .cases h
 .split at h
  .split at h
   .cases h
   .rename_i ks r e;cases b:rdCons ks r with
    |none=>rw [b] at h;cases h
    |some x=>
     obtain⟨g,f⟩:=x;rw [b] at h;cases f with
     |nil=>
      simp only [rdTail,Option.some.injEq] at h;subst h;exact ur b (ut e (c.drop 2))
     |cons a t=>cases h
  .cases h
theorem KT {ms:CM}:∀{cs:CM},(∀x∈ms,Bytes x.2)->(∀x∈cs,Bytes x.2)->∀x∈CM.bX ms cs,Bytes x.2:=by
 intro cs
 induction cs generalizing ms with
 |nil=>intro h _ x a;exact h x a
 |cons q c f=>
  intro d b;have e:CM.bX ms (q :: c)=CM.bX (CM.put ms q.1 q.2) c:=rfl;rw [e];refine f (λx a=>?_) (λx a=>b x (List.mem_cons_of_mem _ a));rcases CM.qL a with rfl|a
  .exact b q (by simp)
  .exact d x a
theorem qt {blocks:Nat}:∀{rs:List (List Int)} {ms ov:CM},rdAll blocks ms rs=some ov->(∀x∈ms,Bytes x.2)->(∀r∈rs,Bytes r)->∀x∈ov,Bytes x.2
 | [],ms,ov,h,hm,_=>by
  simp only [rdAll,Option.some.injEq] at h;subst h;exact hm
 |r :: rs,ms,ov,h,hm,hr=>by
  unfold rdAll at h;cases a:rdRec blocks r with
  |none=>rw [a] at h;cases h
  |some cs=>
   rw [a] at h;exact qt h (KT hm (Ib a (hr r (by simp)))) (λx b=>hr x (List.mem_cons_of_mem _ b))
theorem C4 (h:S.fC) (b:∀x∈ov,Bytes x.2):(ee S s y ov rs).2.fC:=by
 unfold ee;split
 .exact h
 .have a:=j6 h s y.home (ms:=ov) b;split
  .exact a
  .exact a.fl s
theorem KU (h0:(ee S s y ov rs).1=0):(ee S s y ov rs).2.puts.length<=S.puts.length:=by
 unfold ee at*;split
 .exact bP _
 .rename_i k;rw [aA k] at h0;split
  .rename_i a;rw [aE a] at h0;exact absurd h0 a
  .rename_i a;rw [aA a] at h0;rw [jf h0];exact dU _
theorem kh (h:lT (S.now 0) s):(cz (S.now 0)).home+(cz (S.now 0)).blocks<=s/\1+2+(cz (S.now 0)).log<=s/\18<=(cz (S.now 0)).log/\(cz (S.now 0)).log<=256/\(cz (S.now 0)).blocks<=2048:=by
 have d:=h.1.geo;have e:=h.2;unfold vq at d;unfold cz;simp only;generalize u32 (S.now 0) 8=a at*;generalize u32 (S.now 0) 12=b at*;generalize u32 (S.now 0) 16=c at*;omega
def sR (S:DS) (s:Nat) (L:LG):Prop:=∃rs hd ov,jH S 1 (cz (S.now 0)).log rs hd/\rdAll (cz (S.now 0)).blocks [] rs=some ov/\L=((eZ S 1 (cz (S.now 0)).log hd).start (ee (bu S s 1 ((cz (S.now 0)).log:Nat)).2 s (cz (S.now 0)) ov rs).2 s).2.2
def SK (w:World) (F:Nat->Prop) (p s c:Nat) (S:DS) (e:Ending) (w':World):Prop:=∃x S' cR,cR<=c+5+(cz (S.now 0)).log/\jP S s x S'/\aa F w w'/\((x≠0/\e= .returned (.tuple #[.pointer none,iV x])/\B.ax w' (more F w w') p s S' cR)\/(x=0/\∃q l m L F',sR S s L/\e= .returned (.tuple #[pQ q,iV 0])/\(∀k,F' k->more F w w' k)/\w.heap.size<=q/\w.heap.size<=l/\w.heap.size<=m/\ig w' F' p s cR q l m S' ⟨cz (S.now 0),L, [],false⟩))
theorem aeD {a:World} {y:Int} (x:Int) (bm:∀k,F k->k<w.heap.size\/w.heap.size+2<=k) (o8:a.heap[w.heap.size]? =some (.cells #[u] 53 (0,0))) (fU:a.heap[w.heap.size+1]? =some (.cells #[.int .i64 y] 49 (0,0))) (hd:B.ax a F p s S c):
    (a.setCell ⟨w.heap.size+1,0,none⟩ (.int .i64 x)).heap[w.heap.size]? =some (.cells #[u] 53 (0,0))/\(a.setCell ⟨w.heap.size+1,0,none⟩ (.int .i64 x)).heap[w.heap.size+1]? =some (.cells #[.int .i64 x] 49 (0,0))/\B.ax (a.setCell ⟨w.heap.size+1,0,none⟩ (.int .i64 x)) F p s S c/\aa (λk=>k=w.heap.size+1) a (a.setCell ⟨w.heap.size+1,0,none⟩ (.int .i64 x)):=by
 have b:=aa.setCell (F:=λk=>k=w.heap.size+1) a (p:=⟨w.heap.size+1,0,none⟩) rfl (iV x);refine⟨(Below.heap_setCell _ _ _ _ (by simp)).trans o8,?_,hd.au b (λk d e=>by have:=bm _ d;omega),b⟩;rw [heap_setCell_same _ _ _ _ _ _ fU];rfl
theorem aal (S:DS) (s n:Nat):B.oRd S s 1 (n:Int)<=n+2:=by
 unfold B.oRd;split <;> simp
theorem aeE {w5:World} {l:Nat} (bm:∀k,F k->k<w.heap.size) (o8:w5.heap[w.heap.size]? =some (.cells #[.pointer none] 53 (0,0))) (fU:w5.heap[w.heap.size+1]? =some (.cells #[.int .i64 0] 49 (0,0))) (hd:B.ax w5 F p s S c) {a:World} (Mt:a=((w5.setCell ⟨w.heap.size,0,none⟩ (.pointer (some ⟨w5.heap.size+1,0,none⟩))).alloc (.map #[] 0)).alloc (.cells (Pg p l w5.heap.size y false) 95)):
  a.heap[w.heap.size]? =some (.cells #[.pointer (some ⟨w5.heap.size+1,0,none⟩)] 53 (0,0))/\a.heap[w.heap.size+1]? =some (.cells #[.int .i64 0] 49 (0,0))/\mZ a (w5.heap.size+1) p l w5.heap.size y false/\Ch a w5.heap.size []/\B.ax a F p s S c/\aa (λk=>k=w.heap.size) w5 a/\a.heap.size=w5.heap.size+2:=by
 have m:=aa.setCell (F:=λk=>k=w.heap.size) w5 (p:=(aD w.heap.size 0)) rfl (.pointer (some ⟨w5.heap.size+1,0,none⟩));have i:=size_setCell w5 ⟨w.heap.size,0,none⟩ (.pointer (some ⟨w5.heap.size+1,0,none⟩));have f:(w5.setCell ⟨w.heap.size,0,none⟩ (.pointer (some ⟨w5.heap.size+1,0,none⟩))).heap[w.heap.size]? =some (.cells #[.pointer (some ⟨w5.heap.size+1,0,none⟩)] 53 (0,0)):=by
  rw [heap_setCell_same _ _ _ _ _ _ o8];rfl
 have g:(w5.setCell ⟨w.heap.size,0,none⟩ (.pointer (some ⟨w5.heap.size+1,0,none⟩))).heap[w.heap.size+1]? =some (.cells #[.int .i64 0] 49 (0,0)):=(Below.heap_setCell _ _ _ _ (by simp)).trans fU;generalize w5.setCell ⟨w.heap.size,0,none⟩ (.pointer (some ⟨w5.heap.size+1,0,none⟩))=b at*;have d:=bY b (.map #[] 0) (.cells (Pg p l w5.heap.size y false) 95);have nc:=(Ch.made b).later (aI (b.alloc (.map #[] 0)) (.cells (Pg p l w5.heap.size y false) 95));have bt:((b.alloc (.map #[] 0)).alloc (.cells (Pg p l w5.heap.size y false) 95)).heap[b.heap.size+1]? =some (.cells (Pg p l w5.heap.size y false) 95 (0,0)):=by
  have:=heap_alloc_new (b.alloc (.map #[] 0)) (.cells (Pg p l w5.heap.size y false) 95);rwa [World.size_alloc] at this
 rw [i] at nc bt;have j:((b.alloc (.map #[] 0)).alloc (.cells (Pg p l w5.heap.size y false) 95)).heap.size=w5.heap.size+2:=by rw [World.size_alloc,World.size_alloc,i]
 rw [<-Mt] at d nc bt j;exact⟨(d.block _ (aw f)).trans f,(d.block _ (aw g)).trans g,bt,nc,(hd.au m (λk n e=>by have:=bm _ n;omega)).later d,m.trans (aa.ah (λ_=>False) d) (λ_ h=>h.elim),j⟩
theorem dQ.aeF {B:Nat} (h:dQ w B v rs X):KN w v rs:=by
 obtain⟨l,j,k⟩:=h;refine⟨l,?_,λi f=>?_⟩
 .obtain⟨d,h|⟨g,a,cur,rfl,m,sd,b⟩⟩:=j
  .exact⟨d, .inl h⟩
  .exact⟨d, .inr ⟨g,a,cur,rfl,dU _,sd,b⟩⟩
 .obtain⟨g,c,b,e,_⟩:=k i f;exact⟨g,c,b,e⟩
section
theorem Aq:∀{ks:List Nat} {l r:List Int} {cs:CM},rdCons ks l=some (cs,r)->cs.length=ks.length
 | [],l,r,cs,h=>by
  simp only [rdCons,Option.some.injEq,Prod.mk.injEq] at h;obtain⟨rfl,_⟩:=h;rfl
 |k :: ks,l,r,cs,h=>by
  rw [iw] at h;split at h
  .cases h
  .cases a:rdCons ks (l.drop 512) with
   |none=>rw [a] at h;cases h
   |some x=>
    rw [a] at h;simp only [Option.map_some,Option.some.injEq,Prod.mk.injEq] at h;obtain⟨rfl,rfl⟩:=h;simp [Aq (cs:=x.1) (r:=x.2) a]
theorem OD (h:rdRec blocks d=some cs):1<=cs.length/\cs.length<=16:=by
 unfold rdRec at h;split at h
 .cases h
 .split at h
  .rename_i j;cases e:rdNums blocks (le (d.take 2)) 0 (d.drop 2) with
   |none=>rw [e] at h;cases h
   |some x=>
    obtain⟨ks,r⟩:=x;rw [e] at h;have k:=(lU e).1;have c:rdTail (rdCons ks r)=some cs:=h;cases f:rdCons ks r with
    |none=>rw [f] at c;cases c
    |some y=>
     obtain⟨i,g⟩:=y;rw [f] at c;cases g with
     |nil=>
      simp only [rdTail,Option.some.injEq] at c;subst c;rw [Aq f];omega
     |cons a b=>cases c
  .cases h
theorem sS (blocks:Nat) (ms:CM) (r:List Int) (rs:List (List Int)):rdAll blocks ms (r :: rs)=match rdRec blocks r with|none=>none|some cs=>rdAll blocks (CM.bX ms cs) rs:=rfl
theorem Et {b:Nat} (h:(bV S a).2.2=0):S.num a<(ia S a b+1)*4294967296:=by
 have d:(bV S a).1=S.num a / 4294967296:=by
  unfold bV gU at*;split at h
  .cases h
  .rename_i c;rw [aA c];rfl
 have e:(bV S a).1<=ia S a b:=by unfold ia;omega
 omega
theorem Ar (dh:S.Ok s) (c:L.begun=false) (e:L.f+1<s) (g:S.num L.f<(L.top+1)*4294967296) (i:L.top<1073741824):(L.start S s).1=0\/(L.start S s).1=3:=by
 unfold LG.start;split
 .exact .inr rfl
 .rw [aA (by rw [c];decide)];have b:(((L.top+1:Nat):Int)*4294967296+((0:Nat):Int))=(((L.top+1)*4294967296:Nat):Int):=by omega
  have uS:=is (br dh L.f (by omega)) (br dh (L.f+1) e) (N:=(L.top+1)*4294967296) (by omega) g;rw [b];have d:(cW S s L.f (((L.top+1)*4294967296:Nat):Int)).1=0\/(cW S s L.f (((L.top+1)*4294967296:Nat):Int)).1=3:=by
   unfold cW;by_cases a:S.fuse=0
   .rw [aE a];exact .inr rfl
   .rw [aA a,aA (by omega)];have mL:=fL (S.now L.f) (S.now (L.f+1)) (((L.top+1)*4294967296:Nat):Int) [];generalize aN (S.now L.f) (S.now (L.f+1)) (((L.top+1)*4294967296:Nat):Int) []=Y at*;rw [show (L.f:Int)+(Y.1:Int)=((L.f+Y.1:Nat):Int) by omega];split
    .exact GV (by omega) _
    .unfold DS.fl;split
     .exact .inr rfl
     .exact .inl rfl
  split
  .exact d
  .exact .inl rfl
section
variable {w w':World} {X Y:Nat->Prop} {B B':Nat} {v u:Value} {ps qs:List (Nat×List Int)}
theorem Pn.cat (h:Pn w X B v ps) (z:Pn w Y B' u qs) (A:∀j,Y j->X j) (s:0<qs.length) (H:ps.length+qs.length<=1000000) (G:B<=w.heap.size):
  ∃a bZ k,(Builtin.append_ #[127,127] 127 #[v,u]).run prog w= .ok (.slice (some (aD a 0)) (ps.length+qs.length) bZ) k/\Pn k X B (.slice (some (aD a 0)) (ps.length+qs.length) bZ) (ps ++ qs)/\aa (λj=>v.ownBlock=some j) w k:=by
 obtain⟨xs,l,ox,hd⟩:=h;obtain⟨o,b,_,cC⟩:=z;obtain⟨E,rt,gv,dr,ec⟩:=info_parts pT;obtain⟨I,F,rfl,ll⟩:=b.form;obtain⟨q,rfl,-⟩:=ll s;obtain⟨a,bZ,k,bC,az,aO,ic,bm⟩:=run_append_lies (P:=prog) w 127 127 0 166 E _ 2 32 underlying127 rt gv dr ec rfl (by omega) v ps.length xs l.own (aD q 0) qs.length F o b.own.1 (λj x D=>b.own.cells (g:=q) rfl _ _ D) b.one s (by unfold maxLen;omega) (by omega) (dU _) w.heap.size rfl;have Fb:=l.own.1;have f:∀i (d:i<(ps ++ qs).length) g c,(xs ++ o)[2*i+1]? =some (.slice (some (aD g 0)) 512 c)->X g:=λi d g c e=>by
  by_cases nj:i<ps.length
  .rw [List.getElem?_append_left (by omega)] at e;exact hd i nj g c e
  .rw [dT] at d;rw [List.getElem?_append_right (by omega),show 2*i+1-xs.length=2*(i-ps.length)+1 by omega] at e;exact A _ (cC _ (by omega) g c e)
 obtain⟨n,C⟩:=l.cat b (Z:=λ_=>True) az aO (λ_ _=>trivial) (λ_ _ _ _ _=>trivial) trivial;refine⟨a,bZ,k,bC,⟨xs ++ o,⟨n.own,λj m=> .inr m,λi d=>?_,n.len⟩,λj m=>?_,f⟩,C⟩
 .obtain⟨g,c,t,p,_,y⟩:=n.put i d;exact⟨g,c,t,p, .inl (f i d g c p),y⟩
 .have e:j=a:=by simpa [Value.ownBlock] using m.symm
  rcases ic with r|r
  .rw [e];exact ox a r
  .omega
end
end
theorem As (s l n:Int) (w:World) (c:18<=l) (d:l<=256) (i:4<=n) (j:n<=1024) (a:n%4=0) (s1:l+n / 4+6<=s) (s2:s<=2048):
  Calls prog 61 #[.agg #[iV s,iV l,iV n]] w λe w'=>e= .returned (.tuple #[.agg #[iV l,iV (3+l),iV (s-(3+l)),iV n,iV (2+n / 4)],iV 0])/\bW w w':=by
 have b:n.tmod 4=n%4:=Int.tmod_eq_emod_of_nonneg (by omega);have hd:n.tdiv 4=n / 4:=Int.tdiv_eq_ediv_of_nonneg (by omega);have f:¬l<18:=by omega
 have g:¬256<l:=by omega
 have k:¬n<4:=by omega
 have m:¬1024<n:=by omega
 have o:¬2048<s:=by omega
 have p:¬s<3+l+(2+n / 4)+1:=by omega
 go_in;go_wp2;refine bodyPost_ret (v:= .tuple #[.agg #[iV l,iV (3+l),iV (s-(3+l)),iV n,iV (2+n / 4)],iV 0]) (by simp [results,results61,go_sem] <;> omega) rfl ⟨rfl,bY w _ _⟩
theorem KV (s l n:Int) (w:World) (h:¬(18<=l/\l<=256)):
  Calls prog 61 #[.agg #[iV s,iV l,iV n]] w λe w'=>e= .returned (.tuple #[.agg #[iV 0,iV 0,iV 0,iV 0,iV 0],iV 22])/\bW w w':=by
 by_cases b:18<=l
 .have c:¬l<=256:=by omega
  have a:¬l<18:=by omega
  have d:256<l:=by omega
  go_in;go_wp2;exact bodyPost_ret (v:= .tuple #[.agg #[iV 0,iV 0,iV 0,iV 0,iV 0],iV 22]) (by simp [results,results61,go_sem]) rfl ⟨rfl,bY w _ _⟩
 .have a:l<18:=by omega
  go_in;go_wp2;exact bodyPost_ret (v:= .tuple #[.agg #[iV 0,iV 0,iV 0,iV 0,iV 0],iV 22]) (by simp [results,results61,go_sem]) rfl ⟨rfl,bY w _ _⟩
theorem KW (s l n:Int) (w:World) (f:18<=l) (g:l<=256) (h:¬(4<=n/\n<=1024)):
  Calls prog 61 #[.agg #[iV s,iV l,iV n]] w λe w'=>e= .returned (.tuple #[.agg #[iV 0,iV 0,iV 0,iV 0,iV 0],iV 22])/\bW w w':=by
 have i:¬l<18:=by omega
 have j:¬256<l:=by omega
 by_cases b:4<=n
 .have c:¬n<=1024:=by omega
  have a:¬n<4:=by omega
  have d:1024<n:=by omega
  go_in;go_wp2;exact bodyPost_ret (v:= .tuple #[.agg #[iV 0,iV 0,iV 0,iV 0,iV 0],iV 22]) (by simp [results,results61,go_sem]) rfl ⟨rfl,bY w _ _⟩
 .have a:n<4:=by omega
  go_in;go_wp2;exact bodyPost_ret (v:= .tuple #[.agg #[iV 0,iV 0,iV 0,iV 0,iV 0],iV 22]) (by simp [results,results61,go_sem]) rfl ⟨rfl,bY w _ _⟩
theorem KX (s l n:Int) (w:World) (c:18<=l) (d:l<=256) (i:4<=n) (j:n<=1024) (h:¬n%4=0):
  Calls prog 61 #[.agg #[iV s,iV l,iV n]] w λe w'=>e= .returned (.tuple #[.agg #[iV 0,iV 0,iV 0,iV 0,iV 0],iV 22])/\bW w w':=by
 have f:¬l<18:=by omega
 have g:¬256<l:=by omega
 have k:¬n<4:=by omega
 have m:¬1024<n:=by omega
 have b:n.tmod 4=n%4:=Int.tmod_eq_emod_of_nonneg (by omega);have a:(n%4 != 0)=true:=by rw [fT];exact h
 go_in;go_wp2;exact bodyPost_ret (v:= .tuple #[.agg #[iV 0,iV 0,iV 0,iV 0,iV 0],iV 22]) (by simp [results,results61,go_sem]) rfl ⟨rfl,bY w _ _⟩
theorem KY (s l n:Int) (w:World) (g:18<=l) (i:l<=256) (m:4<=n) (o:n<=1024) (d:n%4=0) (h:¬(l+n / 4+6<=s/\s<=2048)):
  Calls prog 61 #[.agg #[iV s,iV l,iV n]] w λe w'=>e= .returned (.tuple #[.agg #[iV 0,iV 0,iV 0,iV 0,iV 0],iV 22])/\bW w w':=by
 have j:¬l<18:=by omega
 have k:¬256<l:=by omega
 have p:¬n<4:=by omega
 have q:¬1024<n:=by omega
 have f:n.tmod 4=n%4:=Int.tmod_eq_emod_of_nonneg (by omega);have hd:n.tdiv 4=n / 4:=Int.tdiv_eq_ediv_of_nonneg (by omega);by_cases c:3+l+(2+n / 4)+1<=s
 .have a:¬s<=2048:=by omega
  have b:2048<s:=by omega
  go_in;go_wp2;exact bodyPost_ret (v:= .tuple #[.agg #[iV 0,iV 0,iV 0,iV 0,iV 0],iV 22]) (by simp [results,results61,go_sem]) rfl ⟨rfl,bY w _ _⟩
 .have b:s<3+l+(2+n / 4)+1:=by omega
  by_cases a:2048<s
  .omega
  .clear h;go_in;go_wp2;exact bodyPost_ret (v:= .tuple #[.agg #[iV 0,iV 0,iV 0,iV 0,iV 0],iV 22]) (by simp [results,results61,go_sem]) rfl ⟨rfl,bY w _ _⟩
theorem vz (s l n:Int) (w:World):
  Calls prog 61 #[.agg #[iV s,iV l,iV n]] w λe w'=>∃v x,e= .returned (.tuple #[v,iV x])/\xN s l n v x/\bW w w':=by
 have b:¬vq s l n->∀(e:Ending) (w':World),(e= .returned (.tuple #[.agg #[iV 0,iV 0,iV 0,iV 0,iV 0],iV 22])/\bW w w')->∃v x,e= .returned (.tuple #[v,iV x])/\xN s l n v x/\bW w w':=
  λi e w' h=>⟨_,_,h.1, .inr ⟨i,rfl,rfl⟩,h.2⟩
 by_cases a:18<=l/\l<=256
 .by_cases c:4<=n/\n<=1024
  .by_cases d:n%4=0
   .by_cases f:l+n / 4+6<=s/\s<=2048
    .exact(As s l n w a.1 a.2 c.1 c.2 d f.1 f.2).mono (λe w' h=>⟨_,_,h.1, .inl ⟨⟨a,c,d,f⟩,rfl,rfl⟩,h.2⟩)
    .exact(KY s l n w a.1 a.2 c.1 c.2 d f).mono (b (λg=>f g.2.2.2))
   .exact(KX s l n w a.1 a.2 c.1 c.2 d).mono (b (λg=>d g.2.2.1))
  .exact(KW s l n w a.1 a.2 c).mono (b (λg=>c g.2.1))
 .exact(KV s l n w a).mono (b (λg=>a g.1))
theorem At {m:Nat} (h:q<l.length):part l q (m+1)=l.getD q 0 :: part l (q+1) m:=by
 unfold part;rw [List.drop_eq_getElem_cons h,List.take_succ_cons];simp [List.getD,h]
def xR (l:List Int) (at_ n:Nat) (r:Int):Prop:=r=((le (part l at_ n):Nat):Int)\/(r= -1/\18014398509481984<le (part l at_ n))
theorem Eu (h:q+j+k<=l.length):le (part l (q+j) k)<=le (part l q (j+k)):=by
 induction j generalizing q with
 |zero=>simp
 |succ j a=>
  have b:=a (q:=q+1) (by omega);rw [show j+1+k=(j+k)+1 by omega,At (by omega),le,show q+(j+1)=q+1+j by omega];omega
theorem KZ (b o N c:Nat) (l:List Int) (a n:Nat) (w:World) (C:l.length=N) (m:Bytes l) (y:N<=1000000) (D:a+n<=N) (v:n<=8) (s:∀i,i<N->w.cell? ⟨b,o+i,none⟩=some (.int .u8 (l.getD i 0))):
  Calls prog 164 #[.slice (some (aD b o)) N c,iV (a:Int),iV (n:Int)] w λe w'=>(∃r,e= .returned (iV r)/\xR l a n r)/\w'=w:=by
 go_in;go_wp2;go_loopw [7,8] (λr i wr=>∃k:Nat,k<=n/\i=iV ((n:Int)-1-(k:Int))/\r=iV ((le (part l (a+(n-k)) k):Nat):Int)/\wr=w/\le (part l (a+(n-k)) k)<=9223372036854775807) (λ_ i _=>(intOf i+1).toNat);case atStart=>exact⟨0,dU _,by simp,by simp [part,le],rfl,by simp [part,le]⟩
 case round=>
  obtain⟨k,A,rfl,rfl,rfl,E⟩:=hrel;have X0:=Eu (l:=l) (q:=a) (j:=n-k) (k:=k) (by omega);rw [show n-k+k=n by omega] at X0;by_cases bm:k<n
  .have t:(0:Int)<=(n:Int)-1-(k:Int):=(by omega);by_cases aT:18014398509481984<((le (part l (a+(n-k)) k):Nat):Int)
   .have d:(xR l a n (-1)):= .inr ⟨rfl,by have:=X0;omega⟩;generalize le (part l (a+(n-k)) k)=V at*;go_wp2;go_ret;exact⟨⟨_,rfl,d⟩,rfl⟩
   .have p:=s (a+(n-1-k)) (by omega);obtain⟨x,f,jA⟩:∃x:Nat,l.getD (a+(n-1-k)) 0=(x:Int)/\x<256:=by
     have:=m l[a+(n-1-k)] (List.getElem_mem (by omega));refine⟨(l.getD (a+(n-1-k)) 0).toNat,?_,?_⟩<;> simp [List.getD,show a+(n-1-k)<l.length by omega] <;> omega
    have yP:le (part l (a+(n-(k+1))) (k+1))=x+256*le (part l (a+(n-k)) k):=by
     rw [At (by omega),le,show a+(n-(k+1))=a+(n-1-k) by omega,f,show a+(n-1-k)+1=a+(n-k) by omega];simp
    rw [f] at p;have g:(a:Int)+((n:Int)-1-(k:Int))=((a+(n-1-k):Nat):Int):=(by omega);have u:((a+(n-1-k):Nat):Int)<(N:Int):=(by omega);generalize z:le (part l (a+(n-k)) k)=V at*;generalize a+(n-1-k)=Q at*;go_wp2;go_roundw;case rel=>exact⟨k+1,by omega,by first|(congr 1;omega)|go_num,by rw [yP];congr 1;omega,trivial,by rw [yP];omega⟩
    case measure=>simp [intOf];omega
  .have t:¬(0:Int)<=(n:Int)-1-(k:Int):=(by omega);have TZ:k=n:=(by omega);subst TZ;have d:(xR l a k ((le (part l (a+(k-k)) k):Nat):Int)):= .inl (by simp);generalize le (part l (a+(k-k)) k)=V at*;go_wp2;go_ret;exact⟨⟨_,rfl,d⟩,rfl⟩
theorem aam (a:Bytes l) (b:k+4<=l.length) {r:Int} (h:xR l k 4 r):r=((le (part l k 4):Nat):Int):=by
 rcases h with h|⟨_,h⟩
 .exact h
 .have:=lg (dS a k 4);rw [fx b] at this;have:(2:Nat) ^ (8*4)=4294967296:=rfl;omega
theorem ay.Ev (h:Full w g l) (a:l.length<=1000000):ay w 5 g l.length (bs l):=by
 have:=ay.xp h (by simp [bs,maxLen];omega);simpa [bs] using this
theorem Full.src (h:Full w g l) (b:l.length<=1000000) (d:n<=l.length):Src w (some (aD g 0)) n (l.take n):=
   ⟨by simp;omega,(λh=>by cases h),λx c i a=>by
  cases c;rw [(ay.Ev h b).byte (by omega)];simp [List.getD,a]⟩
theorem Full.lt (h:Full w g l):g<w.heap.size:=(kN.1 h).1
theorem Full.lI (h:Full w g l) (a:bW w w'):Full w' g l:=(a.block g h.lt).trans h
theorem aan (n i:Nat) (h:i<n):(zs n).getD i 0=0:=by simp [zs,List.getD,h]
theorem Full.set (h:Full w g l) (i:Nat) (x:Int):Full (w.setCell ⟨g,i,none⟩ (.int .u8 x)) g (l.set i x):=GY x h
theorem Full.cell (h:Full w g l) (a:i<l.length):w.cell? (aD g i)=some (.int .u8 (l.getD i 0)):=aj h (by simp [bs,List.getD,a])
theorem Full.frozen (h:Full w g l) (i:Nat):w.frozen? (aD g i)=false:=ae h i
theorem SL:(((((((zs 8 ++ zs 504).set 0 118).set 1 101).set 2 108).set 3 108).set 4 117).set 5 109).set 7 1=gq ++ zs 504:=by
 have e:∀(a:List Int) (i:Nat) (x:Int),i<a.length->(a ++ zs 504).set i x=a.set i x ++ zs 504:=λa i x h=>List.set_append_left i x h;rw [e _ _ _ (by decide),e _ _ _ (by decide),e _ _ _ (by decide),e _ _ _ (by decide),e _ _ _ (by decide),e _ _ _ (by decide),e _ _ _ (by decide)];rfl
theorem uu (s l n:Nat) (w:World) (K:vq s l n):
  Calls prog 67 #[.agg #[iV (s:Int),iV (l:Int),iV (n:Int)]] w λe w'=>∃v,e= .returned (.tuple #[v,iV 0])/\Made w w' v (eR (bM s l n)):=by
 obtain⟨⟨O,P⟩,⟨Q,R⟩,J,s1,s2⟩:=K;have M:=λw=>As s l n w O P Q R J s1 s2;obtain⟨N,t,gv,dr,ec⟩:=info_parts fW;go_in;go_wp2_with fail;refine(M _).mono ?_;rintro e w1 ⟨rfl,aq⟩;have bK:=((bi _ w).alloc (bP _) _).trans (aq.mono (by simp));have x:w1.heap[w.heap.size]? =some (.cells #[.int .i64 (s:Int), .int .i64 (l:Int), .int .i64 (n:Int)] 39 (0,0)):=(aq.block _ (by simp)).trans (heap_alloc_new _ _);have A5:=(kN.1 x).1;obtain⟨b,dw⟩:∃b,b=w1.alloc (.cells #[.int .i64 (l:Int), .int .i64 (3+(l:Int)), .int .i64 ((s:Int)-(3+(l:Int))), .int .i64 (n:Int), .int .i64 (2+(n:Int) / 4)] 86):=⟨_,rfl⟩;have eM:bW w b:=by rw [dw];exact bK.alloc bK.size _
 have qC:b.heap[w.heap.size]? =some (.cells #[.int .i64 (s:Int), .int .i64 (l:Int), .int .i64 (n:Int)] 39 (0,0)):=by rw [dw];exact(Below.heap_alloc _ _ _ A5).trans x
 have ajZ:=(kN.1 qC).1;go_wp2_with (at_make;rw [<-dw];refine wpList_make_full _ rfl _ _ 36 rfl b.heap.size 5 N (.int .u8 0) 1 underlying36 t gv dr _ _ _ _ 512 rfl rfl ?c1 ?c2 ?c3 ?c4 ?c5 ?_);case c1=>rfl
 case c2=>rfl
 case c3=>rw [ec];omega
 case c4=>unfold maxLen;omega
 case c5=>exact bP _
 intro r az aO;have sV:=lJ az;rw [<-dw] at aO;have U:b.heap.size=w1.heap.size+1:=by rw [dw];simp
 have bz:=(bi _ b).grown aO (bP _) (by intro k L;cases L);have Pt:Full r (w1.heap.size+1) (zs 8 ++ zs 504):=by
  have:=sV.full (by simp only [bs,List.length_map,List.length_replicate]);rw [<-lM];exact this
 have jK:=eM.trans (bz.mono eM.size);have NY:=(bz.block _ ajZ).trans qC;have aq3:(zs 8 ++ zs 504).length=512:=by rw [dT,bB,bB]
 have z:∀i,i<8->r.cell? ⟨w1.heap.size+1,i,none⟩=some (.int .u8 0):=λi t=>by
  rw [Pt.cell (by omega)];rw [<-lM,aan _ _ (by omega)]
 obtain⟨y0,y1,y2,y3,y4,y5,y7⟩:=nW (Pt.frozen 0) (Pt.frozen 1) (Pt.frozen 2) (Pt.frozen 3) (Pt.frozen 4) (Pt.frozen 5) (Pt.frozen 7);have dG:¬w.heap.size=w1.heap.size+1:=by omega
 have W:=aL NY;go_wp2;refine wp_loop_rounds 7 ?_;rw [rounds_succ];go_wp2;rw [rounds_succ];go_wp2;rw [rounds_succ];go_wp2;rw [rounds_succ];go_wp2;rw [rounds_succ];go_wp2;rw [rounds_succ];go_wp2;rw [rounds_succ];go_wp2_with fail;have D:∀wx:World,Full wx (w1.heap.size+1) (gq ++ zs 504)->Calls prog 118 #[.slice (some ⟨w1.heap.size+1,0,none⟩) 512 512,iV 8,iV 4,iV (s:Int)] wx λe w'=>e= .returned (.tuple #[])/\Full w' (w1.heap.size+1) ((gq ++ leb 4 s) ++ (zs 4 ++ zs 496))/\aa (λj=>j=w1.heap.size+1) wx w':=λwx a=>by
  have:=qU (w1.heap.size+1) 512 512 gq (zs 4) (zs 500) 8 4 s wx (by rw [<-lM];exact a) rfl (bB 4) (by rw [dT,dT,bB,bB];rfl) (by omega) (by omega);rw [show zs 500=zs 4 ++ zs 496 from lM 4 496,<-List.append_assoc] at this;exact this
 have E:∀wx:World,Full wx (w1.heap.size+1) ((gq ++ leb 4 s) ++ (zs 4 ++ zs 496))->Calls prog 118 #[.slice (some ⟨w1.heap.size+1,0,none⟩) 512 512,iV 12,iV 4,iV (l:Int)] wx λe w'=>e= .returned (.tuple #[])/\Full w' (w1.heap.size+1) ((gq ++ leb 4 s ++ leb 4 l) ++ (zs 4 ++ zs 492))/\aa (λj=>j=w1.heap.size+1) wx w':=λwx a=>by
  have:=qU (w1.heap.size+1) 512 512 (gq ++ leb 4 s) (zs 4) (zs 496) 12 4 l wx a (by rw [dT,aH];rfl) (bB 4) (by rw [dT,dT,dT,bB,bB,aH];rfl) (by omega) (by omega);rw [show zs 496=zs 4 ++ zs 492 from lM 4 492,<-List.append_assoc] at this;exact this
 have G:∀wx:World,Full wx (w1.heap.size+1) ((gq ++ leb 4 s ++ leb 4 l) ++ (zs 4 ++ zs 492))->Calls prog 118 #[.slice (some ⟨w1.heap.size+1,0,none⟩) 512 512,iV 16,iV 4,iV (n:Int)] wx λe w'=>e= .returned (.tuple #[])/\Full w' (w1.heap.size+1) (bM s l n ++ (zs 4 ++ []))/\aa (λj=>j=w1.heap.size+1) wx w':=λwx a=>by
  have:=qU (w1.heap.size+1) 512 512 (gq ++ leb 4 s ++ leb 4 l) (zs 4) (zs 492) 16 4 n wx a (by rw [dT,dT,aH,aH];rfl) (bB 4) (by rw [dT,dT,dT,dT,bB,bB,aH,aH];rfl) (by omega) (by omega);rw [show zs 492=zs 488 ++ zs 4 from lM 488 4] at this;have e:gq ++ leb 4 s ++ leb 4 l ++ (leb 4 n ++ (zs 488 ++ zs 4))=bM s l n ++ (zs 4 ++ []):=by rw [List.append_nil,<-List.append_assoc,<-List.append_assoc];rfl
  rw [e] at this;exact this
 have H:∀wx:World,Full wx (w1.heap.size+1) (bM s l n ++ (zs 4 ++ []))->Calls prog 119 #[.slice (some ⟨w1.heap.size+1,0,none⟩) 508 512] wx λe w'=>e= .returned (iV ((sumOf (bM s l n):Nat):Int))/\bW wx w':=λwx a=>by
  refine Oh _ _ _ _ wx (gM s l n) (by omega) ?_;have:=a.src (by rw [dT,dD,List.append_nil,bB];omega) (n:=508) (by rw [dT,dD];omega);rw [List.take_left' (dD s l n)] at this;exact this
 have mL:=ng (gM s l n);have I:∀wx:World,Full wx (w1.heap.size+1) (bM s l n ++ (zs 4 ++ []))->Calls prog 118 #[.slice (some ⟨w1.heap.size+1,0,none⟩) 512 512,iV 508,iV 4,iV ((sumOf (bM s l n):Nat):Int)] wx λe w'=>e= .returned (.tuple #[])/\Full w' (w1.heap.size+1) (eR (bM s l n))/\aa (λj=>j=w1.heap.size+1) wx w':=λwx a=>by
  have:=qU (w1.heap.size+1) 512 512 (bM s l n) (zs 4) [] 508 4 (sumOf (bM s l n)) wx a (dD s l n) (bB 4) (by rw [dT,dD,List.append_nil,bB]) (by omega) (by omega);rw [List.append_nil] at this;exact this
 refine(D _ ?full).mono ?_;case full=>
  have:=((((((Pt.set 0 118).set 1 101).set 2 108).set 3 108).set 4 117).set 5 109).set 7 1;rw [SL] at this;exact this
 have C:=(((((((aa.refl (λj=>j=w1.heap.size+1) r).trans (aa.setCell (F:=λj=>j=w1.heap.size+1) (p:=⟨w1.heap.size+1,0,none⟩) _ rfl (.int .u8 118)) (λ_ h=> .inl h)).trans (aa.setCell (F:=λj=>j=w1.heap.size+1) (p:=⟨w1.heap.size+1,1,none⟩) _ rfl (.int .u8 101)) (λ_ h=> .inl h)).trans (aa.setCell (F:=λj=>j=w1.heap.size+1) (p:=⟨w1.heap.size+1,2,none⟩) _ rfl (.int .u8 108)) (λ_ h=> .inl h)).trans (aa.setCell (F:=λj=>j=w1.heap.size+1) (p:=⟨w1.heap.size+1,3,none⟩) _ rfl (.int .u8 108)) (λ_ h=> .inl h)).trans (aa.setCell (F:=λj=>j=w1.heap.size+1) (p:=⟨w1.heap.size+1,4,none⟩) _ rfl (.int .u8 117)) (λ_ h=> .inl h)).trans (aa.setCell (F:=λj=>j=w1.heap.size+1) (p:=⟨w1.heap.size+1,5,none⟩) _ rfl (.int .u8 109)) (λ_ h=> .inl h)).trans (aa.setCell (F:=λj=>j=w1.heap.size+1) (p:=⟨w1.heap.size+1,7,none⟩) _ rfl (.int .u8 1)) (λ_ h=> .inl h);rintro e w5 ⟨rfl,f,dX⟩;have aeG:=C.trans dX (λ_ h=> .inl h);have nH:=(aeG.block _ (kN.1 NY).1 dG).trans NY;have jd:=jK.trans (aeG.below (λj o=>by omega) jK.size);have c5:=bD nH;go_wp2_with fail;refine(E _ f).mono ?_;rintro e X ⟨rfl,g,ji⟩;have q:=(ji.block _ (kN.1 nH).1 dG).trans nH;have wO:=jd.trans (ji.below (λj o=>by omega) jd.size);have T:=bH q;go_wp2_with fail;refine(G _ g).mono ?_;rintro e Y ⟨rfl,c,gy⟩;have Fk:=wO.trans (gy.below (λj o=>by omega) wO.size);go_wp2_with fail;refine(H _ c).mono ?_;rintro e Z ⟨rfl,BD⟩;have VX:=Fk.trans (BD.mono Fk.size);have d:=(c.lI BD);go_wp2_with fail;refine(I _ d).mono ?_;rintro e S ⟨rfl,m,A4⟩;have A:(Made w S (.slice (some ⟨w1.heap.size+1,0,none⟩) 512 512) (eR (bM s l n))):=by
  have u:(eR (bM s l n)).length=512:=by rw [oD,dD]
  have y:=ay.Ev m (by omega);rw [u] at y;exact⟨w1.heap.size+1,512,by rw [u],by omega,y,VX.trans (A4.below (λj o=>by omega) VX.size)⟩
 go_wp2;go_ret2;exact⟨_,rfl,A⟩
theorem BJ (s l n:Int) (w:World) (b:¬vq s l n):
  Calls prog 67 #[.agg #[iV s,iV l,iV n]] w λe w'=>e= .returned (.tuple #[.slice none 0 0,iV 22])/\bW w w':=by
 have c:∀w,Calls prog 61 #[.agg #[iV s,iV l,iV n]] w λe w'=>e= .returned (.tuple #[.agg #[iV 0,iV 0,iV 0,iV 0,iV 0],iV 22])/\bW w w':=λw=>by
  refine(vz s l n w).mono ?_;rintro e w' ⟨v,x,rfl,⟨h,_⟩|⟨_,rfl,rfl⟩,a⟩
  .exact absurd h b
  .exact⟨rfl,a⟩
 go_in;go_wp2_with fail;refine(c _).mono ?_;rintro e w1 ⟨rfl,aq⟩;have bK:=((bi _ w).alloc (bP _) _).trans (aq.mono (by simp));go_wp2;go_ret2;exact⟨rfl,(λo=>bK.alloc bK.size o) _⟩
theorem qX (b o N c:Nat) (l:List Int) (k:Nat) (w:World) (f:l.length=N) (a:Bytes l) (d:N<=1000000) (g:k+4<=N) (m:∀i,i<N->w.cell? ⟨b,o+i,none⟩=some (.int .u8 (l.getD i 0))):
  Calls prog 164 #[.slice (some (aD b o)) N c,iV (k:Int),iV 4] w λe w'=>e= .returned (iV ((u32 l k:Nat):Int))/\w'=w:=by
 refine(KZ b o N c l k 4 w f a d g (by omega) m).mono ?_;rintro e w' ⟨⟨r,rfl,j⟩,rfl⟩;exact⟨by rw [aam a (by omega) j];rfl,rfl⟩
theorem ki (s l n:Nat):(eR (bM s l n)).length=512:=(oD _).trans (congrArg (·+4) (dD s l n))
theorem Made.out (h:Made w w' v l) (a:l.length=n):∃g c,v= .slice (some (aD g 0)) n c/\w.heap.size<=g/\ay w' 5 g c (bs l)/\bW w w':=by
 subst a;exact h
def SM (l:List Int) (v:Value) (x:Int):Prop:=(An l/\v= .agg #[iV ((u32 l 8:Nat):Int),iV ((u32 l 12:Nat):Int),iV ((u32 l 16:Nat):Int)]/\x=0)\/(¬An l/\v= .agg #[iV 0,iV 0,iV 0]/\x=6)
theorem rM (b o c:Nat) (l:List Int) (w:World) (r:l.length=512) (s:Bytes l) (n:∀i,i<512->w.cell? ⟨b,o+i,none⟩=some (.int .u8 (l.getD i 0))) (G:vq (u32 l 8) (u32 l 12) (u32 l 16)) (x:Bool) (H:decide (eR (bM (u32 l 8) (u32 l 12) (u32 l 16))=l)=x):
  Calls prog 120 #[.slice (some (aD b o)) 512 c] w λe w'=>e= .returned (.tuple #[if x then .agg #[iV ((u32 l 8:Nat):Int),iV ((u32 l 12:Nat):Int),iV ((u32 l 16:Nat):Int)] else .agg #[iV 0,iV 0,iV 0],iV (if x then 0 else 6)])/\bW w w':=by
 obtain⟨w1,bN⟩:=bQ (w.alloc (.cells #[.int .i64 0, .int .i64 0, .int .i64 0] 39));have bK:bW w w1:=by rw [bN];exact(bi _ w).alloc (bP _) _
 have iA:w1.heap[w.heap.size]? =some (.cells #[.int .i64 0, .int .i64 0, .int .i64 0] 39 (0,0)):=by rw [bN];exact heap_alloc_new _ _
 have rY:w1.heap.size=w.heap.size+1:=by rw [bN];simp
 have J:Calls prog 164 #[.slice (some (aD b o)) 512 c,iV 8,iV 4] w1 λe w'=>e= .returned (iV ((u32 l 8:Nat):Int))/\w'=w1:=qX b o 512 c l 8 w1 r s (by omega) (by omega) (λi a=>cell_later bK (n i a));have K:Calls prog 164 #[.slice (some (aD b o)) 512 c,iV 12,iV 4] w1 λe w'=>e= .returned (iV ((u32 l 12:Nat):Int))/\w'=w1:=qX b o 512 c l 12 w1 r s (by omega) (by omega) (λi a=>cell_later bK (n i a));have L:Calls prog 164 #[.slice (some (aD b o)) 512 c,iV 16,iV 4] w1 λe w'=>e= .returned (iV ((u32 l 16:Nat):Int))/\w'=w1:=qX b o 512 c l 16 w1 r s (by omega) (by omega) (λi a=>cell_later bK (n i a));obtain⟨z,A,u,y,SN⟩:=ey K L n H ((λwx=>uu (u32 l 8) (u32 l 12) (u32 l 16) wx G));generalize u32 l 8=X at*;generalize u32 l 12=Y at*;generalize u32 l 16=Z at*;clear n K L G H;go_in;go_wp2_with fail;rw [<-bN];clear bN;refine bE J λM d=>?_;have ez:=d.symm;subst ez;clear d J;go_wp2_with fail;refine bE z λM d=>?_;have ez:=d.symm;subst ez;clear d z;go_wp2_with fail;refine bE A λM d=>?_;have ez:=d.symm;subst ez;clear d A;have qC:(w1.alloc (.cells #[.int .i64 (X:Int), .int .i64 (Y:Int), .int .i64 (Z:Int)] 39)).heap[w1.heap.size]? =some (.cells #[.int .i64 (X:Int), .int .i64 (Y:Int), .int .i64 (Z:Int)] 39 (0,0)):=heap_alloc_new _ _;have eM:bW w (w1.alloc (.cells #[.int .i64 (X:Int), .int .i64 (Y:Int), .int .i64 (Z:Int)] 39)):=bK.alloc bK.size _;have SO:(w1.alloc (.cells #[.int .i64 (X:Int), .int .i64 (Y:Int), .int .i64 (Z:Int)] 39)).heap[w.heap.size]? =some (.cells #[.int .i64 0, .int .i64 0, .int .i64 0] 39 (0,0)):=(Below.heap_alloc _ _ _ (by omega)).trans iA;have ju:(w1.alloc (.cells #[.int .i64 (X:Int), .int .i64 (Y:Int), .int .i64 (Z:Int)] 39)).heap.size=w.heap.size+2:=by simp;omega
 have k:=(aF qC (aF eM (aF SO ju)));clear qC eM SO ju bK iA;go_wp2_with fail;refine(SN _).mono ?_;rintro e O ⟨v,rfl,wk⟩;have gZ:=ki X Y Z;obtain⟨g,N,rfl,E7,sV,bz⟩:=wk.out gZ;clear wk;have jK:=k.2.1.trans (bz.mono (by have:=k.2.2.2;omega));have UL:=sJ g 0 b o 512 N c (eR (bM X Y Z)) l O gZ r (by omega) (λi a=>by have:=sV.byte (i:=i) (by omega);rwa [aK] at this) (λi a=>cell_later jK (u i a));rw [y] at UL;have I:=(bz.block w1.heap.size (by have:=k.2.2.2;omega)).trans k.1;have p3:=(bz.block w.heap.size (by have:=k.2.2.2;omega)).trans k.2.2.1;have f:=(aF I (aF p3 jK));clear SN sV bz I p3 jK k E7;go_wp2_with fail;refine bE UL λP fe=>?_;have q:=(fe.block _ (kN.1 f.1).1).trans f.1;have m:=(fe.block _ (kN.1 f.2.1).1).trans f.2.1;rw [rY] at q;obtain⟨Q,R,S,C,D,E,T,U,W,jB⟩:=vH (aL q) (bD q) (bH q) (aL m) (bD m) (bH m) (ae m 0) (ae m 1) (ae m 2) (f.2.2.trans (fe.mono f.2.2.size));clear UL fe q m f y u;have t:=(λ(u0 u1 u2:Value)=>aa.below (B:=w.heap.size) (((aa.setCell (F:=λj=>j=w.heap.size) (p:=⟨w.heap.size,0,none⟩) P rfl u0).trans (aa.setCell (F:=λj=>j=w.heap.size) (p:=⟨w.heap.size,1,none⟩) _ rfl u1) (λ_ h=> .inl h)).trans (aa.setCell (F:=λj=>j=w.heap.size) (p:=⟨w.heap.size,2,none⟩) _ rfl u2) (λ_ h=> .inl h)) (λj hj=>by omega) jB.size);cases x
 .go_wp2;exact bodyPost_ret (v:= .tuple #[.agg #[iV 0,iV 0,iV 0],iV 6]) (by simp [results,results120,go_sem,C,D,E]) rfl ⟨rfl,jB.trans (t _ _ _)⟩
 .go_wp2;exact bodyPost_ret (v:= .tuple #[.agg #[iV (X:Int),iV (Y:Int),iV (Z:Int)],iV 0]) (by simp [results,results120,go_sem,C,D,E]) rfl ⟨rfl,jB.trans (t _ _ _)⟩
theorem xm (b o c:Nat) (l:List Int) (w:World) (n:l.length=512) (m:Bytes l) (k:∀i,i<512->w.cell? ⟨b,o+i,none⟩=some (.int .u8 (l.getD i 0))) (s:¬vq (u32 l 8) (u32 l 12) (u32 l 16)):
  Calls prog 120 #[.slice (some (aD b o)) 512 c] w λe w'=>e= .returned (.tuple #[.agg #[iV 0,iV 0,iV 0],iV 6])/\bW w w':=by
 obtain⟨w1,bN⟩:=bQ (w.alloc (.cells #[.int .i64 0, .int .i64 0, .int .i64 0] 39));have bK:bW w w1:=by rw [bN];exact(bi _ w).alloc (bP _) _
 have iA:w1.heap[w.heap.size]? =some (.cells #[.int .i64 0, .int .i64 0, .int .i64 0] 39 (0,0)):=by rw [bN];exact heap_alloc_new _ _
 have rY:w1.heap.size=w.heap.size+1:=by rw [bN];simp
 have t:Calls prog 164 #[.slice (some (aD b o)) 512 c,iV 8,iV 4] w1 λe w'=>e= .returned (iV ((u32 l 8:Nat):Int))/\w'=w1:=qX b o 512 c l 8 w1 n m (by omega) (by omega) (λi g=>cell_later bK (k i g));have u:Calls prog 164 #[.slice (some (aD b o)) 512 c,iV 12,iV 4] w1 λe w'=>e= .returned (iV ((u32 l 12:Nat):Int))/\w'=w1:=qX b o 512 c l 12 w1 n m (by omega) (by omega) (λi g=>cell_later bK (k i g));have x:Calls prog 164 #[.slice (some (aD b o)) 512 c,iV 16,iV 4] w1 λe w'=>e= .returned (iV ((u32 l 16:Nat):Int))/\w'=w1:=qX b o 512 c l 16 w1 n m (by omega) (by omega) (λi g=>cell_later bK (k i g));have q:=u;have r:=x;have SN:=(λwx=>BJ (u32 l 8) (u32 l 12) (u32 l 16) wx s);generalize u32 l 8=X at*;generalize u32 l 12=Y at*;generalize u32 l 16=Z at*;clear k u x s;go_in;go_wp2_with fail;rw [<-bN];clear bN;refine bE t λy a=>?_;have ez:=a.symm;subst ez;clear a t;go_wp2_with fail;refine bE q λy a=>?_;have ez:=a.symm;subst ez;clear a q;go_wp2_with fail;refine bE r λy a=>?_;have ez:=a.symm;subst ez;clear a r;have qC:(w1.alloc (.cells #[.int .i64 (X:Int), .int .i64 (Y:Int), .int .i64 (Z:Int)] 39)).heap[w1.heap.size]? =some (.cells #[.int .i64 (X:Int), .int .i64 (Y:Int), .int .i64 (Z:Int)] 39 (0,0)):=heap_alloc_new _ _;have eM:bW w (w1.alloc (.cells #[.int .i64 (X:Int), .int .i64 (Y:Int), .int .i64 (Z:Int)] 39)):=bK.alloc bK.size _;have SO:(w1.alloc (.cells #[.int .i64 (X:Int), .int .i64 (Y:Int), .int .i64 (Z:Int)] 39)).heap[w.heap.size]? =some (.cells #[.int .i64 0, .int .i64 0, .int .i64 0] 39 (0,0)):=(Below.heap_alloc _ _ _ (by omega)).trans iA;have ju:(w1.alloc (.cells #[.int .i64 (X:Int), .int .i64 (Y:Int), .int .i64 (Z:Int)] 39)).heap.size=w.heap.size+2:=by simp;omega
 have f:=(aF qC (aF eM (aF SO ju)));clear qC eM SO ju bK iA;go_wp2_with fail;refine(SN _).mono ?_;rintro e D ⟨rfl,bz⟩;have sW:=f.2.1.trans (bz.mono (by have:=f.2.2.2;omega));have d:=(bz.block w.heap.size (by have:=f.2.2.2;omega)).trans f.2.2.1;obtain⟨z,A,C,E,G,H,jB⟩:=nW (aL d) (bD d) (bH d) (ae d 0) (ae d 1) (ae d 2) sW;clear SN bz d sW f;go_wp2;exact bodyPost_ret (v:= .tuple #[.agg #[iV 0,iV 0,iV 0],iV 6]) (by simp [results,results120,go_sem,z,A,C]) rfl ⟨rfl,jB.trans ((λ(u0 u1 u2:Value)=>aa.below (B:=w.heap.size) (((aa.setCell (F:=λj=>j=w.heap.size) (p:=⟨w.heap.size,0,none⟩) D rfl u0).trans (aa.setCell (F:=λj=>j=w.heap.size) (p:=⟨w.heap.size,1,none⟩) _ rfl u1) (λ_ h=> .inl h)).trans (aa.setCell (F:=λj=>j=w.heap.size) (p:=⟨w.heap.size,2,none⟩) _ rfl u2) (λ_ h=> .inl h)) (λj I=>by omega) jB.size) _ _ _)⟩
theorem BK (b o c:Nat) (l:List Int) (w:World) (g:l.length=512) (f:Bytes l) (j:∀i,i<512->w.cell? ⟨b,o+i,none⟩=some (.int .u8 (l.getD i 0))):
  Calls prog 120 #[.slice (some (aD b o)) 512 c] w λe w'=>∃v x,e= .returned (.tuple #[v,iV x])/\SM l v x/\bW w w':=by
 by_cases a:vq (u32 l 8) (u32 l 12) (u32 l 16)
 .by_cases d:eR (bM (u32 l 8) (u32 l 12) (u32 l 16))=l
  .refine(rM b o c l w g f j a true (by simp [d])).mono ?_;rintro e w' ⟨rfl,h⟩;exact⟨_,_,rfl, .inl ⟨⟨a,d⟩,rfl,rfl⟩,h⟩
  .refine(rM b o c l w g f j a false (by simp [d])).mono ?_;rintro e w' ⟨rfl,h⟩;exact⟨_,_,rfl, .inr ⟨λh=>d h.2,rfl,rfl⟩,h⟩
 .refine(xm b o c l w g f j a).mono ?_;rintro e w' ⟨rfl,h⟩;exact⟨_,_,rfl, .inr ⟨λh=>a h.1,rfl,rfl⟩,h⟩
section
section
variable {w w':World} {F G:Nat->Prop} {r s k:Nat} {S:DS} {L:LG}
def aeH (w w':World) (R:Nat->PC) (E P:Nat) (v:Value) (n:Int):Prop:=
   (∃c d,Rec R E P c d/\n=(c:Int)/\Own w' w.heap.size v d)\/(n=0/\v= .slice none 0 0/\∀c d,¬Rec R E P c d)
theorem SP (h:(R P).d= []):∀c d,¬Rec R E P c d:=λc d a=>by
 have:=(a.2.2.1 0 (by have:=a.1;omega)).2.2.2.2.1;rw [Nat.add_zero,h] at this;simp at this
theorem Ew (h:(R P).c<1\/17<(R P).c):∀c d,¬Rec R E P c d:=λc d a=>by
 have:=a.count;have:=a.1;have:=a.2.1;omega
theorem Ic (b:i<(R P).c) (h:¬(R (P+i)).ok E (P+i) i (R P).c):∀c d,¬Rec R E P c d:=λc d a=>by
 rw [a.count] at b h;exact h (a.2.2.1 i b)
theorem Wp (E P:Nat) (h:aB w F r s S) (y:cH w k r L) (OE:S.fC) (hs:L.f+2+L.n<=s) (iQ:1<=L.n) (aT:S.puts.length+1<=4000000000000) (hE:E<=1073741824) (hP:P<=2147483648):
  Calls prog 167 #[pQ k,iV (E:Int),iV (P:Int)] w λe w'=>∃v n,e= .returned (.tuple #[v,iV n])/\aeH w w' (Rp (dW S L.f) L.n) E P v n/\bW w w':=by
 have Mb:=h.ok.hi;have U:P%L.n<L.n:=Nat.mod_lt _ iQ;have mN:=br h.ok (L.f+2+P%L.n) (by omega);have cZ:=OE.now (L.f+2+P%L.n);obtain⟨u,J,K,O⟩:=cM (jF (h.later (ai (bi w.heap.size w))) (L.f+2+P%L.n) (by omega) (by omega)) y.c0 y.c2 y.c3;have Uq:Rp (dW S L.f) L.n P=cF (S.now (L.f+2+P%L.n)):=rfl;have a:=(λ(wx:World) (i c:Nat) (hb:bW w wx) (hi:i<=17) (hc:c<=65536) (A2:1<=c)=>OA E (P+i) i c (h.later hb) (y.later hb) (OE.now _) hs iQ aT (by omega) (by omega) (by omega) hc A2);have wh:(P:Int).tmod (L.n:Int)=((P%L.n:Nat):Int):=by rw [Int.tmod_eq_emod_of_nonneg (by omega),<-Int.natCast_emod]
 have R6:(P:Int)%(L.n:Int)=((P%L.n:Nat):Int):=by rw [<-Int.natCast_emod]
 have nY:=(j0 cZ).2.2.2.1;obtain⟨M,hM⟩:=bQ (P%L.n);rw [<-hM] at wh R6 U u mN cZ Uq nY;rw [show ((L.f+2+M:Nat):Int)=(L.f:Int)+2+(M:Int) by omega] at u;have xL:IntKind.i64.wrap ((L.f:Int)+2)=(L.f:Int)+2:=by rw [IntKind.wrap_i64];omega
 have aez:IntKind.i64.wrap ((L.f:Int)+2+(M:Int))=(L.f:Int)+2+(M:Int):=by rw [IntKind.wrap_i64];omega
 have aeA:¬L.n=0:=by omega
 have x:∀q,cF (S.now (L.f+2+q%L.n))=Rp (dW S L.f) L.n q:=λq=>rfl;simp only [x] at a;clear hM h y x;generalize S.now (L.f+2+M)=l at*;have T:∀q,(Rp (dW S L.f) L.n q).d.length<=492:=λq=>(j0 (OE.now _)).2.2.2.2.1;generalize Rp (dW S L.f) L.n=R at*;have hlen:=DN l;have ie:=pG cZ;go_in;go_wp2_with fail;go_region_held3 (λw'=>w'.cell? (aD k 0)=some (pQ r)/\w'.cell? (aD k 2)=some (iV (L.f:Int))/\w'.cell? (aD k 3)=some (iV (L.n:Int)))
  (first|exact⟨J,K,O⟩)
    ((go_at_call 40;refine u.mono ?_;rintro e w1 ⟨g,cg,rfl,hFg,aY,bN⟩;have j9:=bN.symm;clear bN;subst j9))
 have fZ:=aY.src;rw [mN] at fZ;have m:=qG (some (aD g 0)) 512 cg l w.drew fZ cZ;by_cases G:(aR l).2=0
 .rw [G] at m;clear u aY fZ J K O;go_wp2_with fail;by_cases k2:(aR l).1.length<=12
  .have sO:=(show∀c d,¬Rec R E P c d from SP (by rw [Uq];exact xP (.inr k2)));have d2:((aR l).1.length:Int)<=12:=(by omega);clear k2 a Uq;refine m.mono ?_;rintro e A ⟨X,rfl,jo,aW⟩;obtain⟨p,rq,rfl,bo,_,_⟩:=jo.src;have dE:=(ai (bi w.heap.size w)).trans aW;clear m aW jo bo;go_wp2;go_ret2;exact⟨_,_,rfl, .inr ⟨rfl,rfl,sO⟩,dE⟩
  .have mT:=vx G (by omega);have d2:¬((aR l).1.length:Int)<=12:=(by omega);by_cases H:(cF l).c<1\/17<(cF l).c
   .have sO:=(show∀c d,¬Rec R E P c d from Ew (by rw [Uq];exact H));refine m.mono ?_;rintro e A ⟨X,rfl,jo,aW⟩;obtain⟨p,rq,rfl,bo,_,_⟩:=jo.src;have dE:=(ai (bi w.heap.size w)).trans aW;have b:=bw p _ rq _ A bo ie 10 2 (by omega) (by omega) (by omega);rw [<-mT.2.2.2.1,show (((10:Nat)):Int)=10 from rfl,show (((2:Nat)):Int)=2 from rfl] at b;clear m aW jo bo mT;go_wp2_with fail;refine bE b λw3 eB=>?_;have eS:=eB.symm;clear eB b;subst eS;by_cases k4:(cF l).c<1
    .have Q:((cF l).c:Int)<1:=(by omega);clear H a Uq;go_wp2;go_ret2;exact⟨_,_,rfl, .inr ⟨rfl,rfl,sO⟩,dE⟩
    .have Q:¬((cF l).c:Int)<1:=(by omega);have d5:(17:Int)<((cF l).c:Int):=(by omega);clear H a Uq;go_wp2;go_ret2;exact⟨_,_,rfl, .inr ⟨rfl,rfl,sO⟩,dE⟩
   .have Q:¬((cF l).c:Int)<1:=(by omega);have d5:¬(17:Int)<((cF l).c:Int):=(by omega);have o:(R P).c=(cF l).c:=(by rw [Uq]);refine m.mono ?_;rintro e A ⟨X,rfl,jo,aW⟩;obtain⟨p,rq,rfl,bo,_,_⟩:=jo.src;have dE:=(ai (bi w.heap.size w)).trans aW;have b:=bw p _ rq _ A bo ie 10 2 (by omega) (by omega) (by omega);rw [<-mT.2.2.2.1,show (((10:Nat)):Int)=10 from rfl,show (((2:Nat)):Int)=2 from rfl] at b;clear m aW jo bo mT;go_wp2_with fail;refine bE b λw3 eB=>?_;have eS:=eB.symm;clear eB b;subst eS;obtain⟨C,hC⟩:=bQ ((cF l).c);rw [<-hC] at Q d5 o H⊢;have Wq:=o;clear o hC Uq;go_wp2;go_loopw [12,13] (λv i wr=>∃j:Nat,j<=C/\i=iV (j:Int)/\(∀t,t<j->(R (P+t)).ok E (P+t) t C)/\Own wr w.heap.size v (kV R P j)/\(kV R P j).length<=492*j/\bW w wr) (λ_ i _=>C-(intOf i).toNat);case atStart=>exact⟨0,dU _,rfl,λt ht=>by omega,by rw [mq];exact Own.nil _ _,by rw [mq];simp,dE⟩
    case round=>
     obtain⟨j,hj,rfl,bR,az,sX,dO⟩:=hrel;obtain⟨bq,I,OF,hz⟩:=cM az dO bR dO.size;clear az dO bR;by_cases bm:j<C
     .have cw:(j:Int)<(C:Int):=(by omega);have D:=a wr j C I (by omega) (by omega) (by omega);rw [show ((P+j:Nat):Int)=(P:Int)+(j:Int) by omega] at D;go_wp2_with fail;refine D.mono ?_;rintro e w4 ⟨v4,rfl,W,fe⟩;have sW:=I.trans (fe.mono hz);have vS:=fe.size;rcases W with ⟨dh,body,z,j7,Vg,aeK⟩|⟨iZ,rfl⟩
      .obtain⟨a4,Z,rfl,GH,iS,_⟩:=z.src;obtain⟨Y,o4,rfl⟩:=cT GH (by omega);have Xx:Src w4 (some ⟨Y,o4+12,none⟩) (body.length-12) ((R (P+j)).d):=by
        have:=GH.sub 12 (body.length-12) (by omega);rwa [nh (by simp),j7] at this
       have jy:=T (P+j);have I1:(R (P+j)).d.length=body.length-12:=(by rw [<-j7];simp);obtain⟨x5,w5,bC,rF,ff⟩:=qV (B:=w.heap.size) (bq.later fe) (Z-12) Xx (by omega) (by omega) (by omega);obtain⟨ro,ZT,jd,Po⟩:=cM bC rF ((sW.trans ff)) dh;obtain⟨N,b⟩:=bQ body.length;rw [<-b] at Vg aeK iS ro I1⊢;have iQ:¬(N:Int)=0:=(by omega);have xA:((N:Int) == 0)=false:=(by rw [eG];omega);have ZB:(12:Int)<=(N:Int):=(by omega);clear D dh z j7 GH Xx bC rF ff fe sW b;go_wp2_with (at_builtin;refine bj rfl _ _ 36 rfl u12 (.slice (some ⟨Y,o4+12,none⟩) (N-12) (Z-12)) _ rfl rfl ro ?_);go_wp2;go_roundw;case rel=>
        refine⟨j+1,by omega,by go_num,λt ht=>?_,by rw [iq];exact ZT,by rw [iq,dT];omega,jd⟩;by_cases e:t=j
        .subst e;exact Po
        .exact OF t (by omega)
       case measure=>simp [intOf];omega
      .have sO:=(show∀c d,¬Rec R E P c d from Ic (by rw [Wq];exact bm) (by rw [Wq];exact iZ));have jB:=sW;clear iZ fe sW D;go_wp2;go_ret2;exact⟨_,_,rfl, .inr ⟨rfl,rfl,sO⟩,jB⟩
     .obtain rfl:j=C:=(by omega);have vQ:¬(j:Int)<(j:Int):=(by omega);go_wp2;go_ret2;exact⟨_,_,rfl, .inl ⟨_,_,(show Rec R E P j (kV R P j) from ⟨by omega,by omega,OF,rfl⟩),rfl,bq⟩,I⟩
 .have sO:=(show∀c d,¬Rec R E P c d from SP (by rw [Uq];exact xP (.inl G)));have d1':(((aR l).2:Int) != 0)=true:=by rw [fT];omega
  clear G a Uq;clear u aY fZ J K O;go_wp2_with fail;refine m.mono ?_;rintro e A ⟨X,rfl,jo,aW⟩;obtain⟨p,rq,rfl,bo,_,_⟩:=jo.src;have dE:=(ai (bi w.heap.size w)).trans aW;clear m aW jo bo;go_wp2;go_ret2;exact⟨_,_,rfl, .inr ⟨rfl,rfl,sO⟩,dE⟩
end
end
section
theorem OG (h:(aR l).2≠0\/(aR l).1.length<12):(cF l).e=0:=by
 unfold cF;rw [aE h];rfl
theorem OH (h:(R j).e<1\/1073741824<(R j).e\/(R j).e<=max E (rtop R j)):max E (rtop R (j+1))=max E (rtop R j):=by
 show max E (if (R j).e<=1073741824 then max (rtop R j) (R j).e else rtop R j)=_;split <;> omega
theorem OI (h:(R j).e<=1073741824) (a:max E (rtop R j)<(R j).e):max E (rtop R (j+1))=(R j).e:=by
 show max E (if (R j).e<=1073741824 then max (rtop R j) (R j).e else rtop R j)=_;rw [aE h];omega
section
variable {w w':World} {F G:Nat->Prop} {r s k:Nat} {S:DS} {L:LG}
theorem SQ (E:Nat) (h:aB w F r s S) (K:cH w k r L) (OE:S.fC) (hs:L.f+2+L.n<=s) (aT:S.puts.length+1<=4000000000000) (hE:E<=1073741824):
  Calls prog 166 #[pQ k,iV (E:Int)] w λe w'=>e= .returned (iV ((max E (rtop (dW S L.f) L.n):Nat):Int))/\bW w w':=by
 obtain⟨Mb,O,P,Po,Fi⟩:=ey h.ok.hi (yh h) (yh K) (yh h.ok) (yh OE);have p:∀q,cF (S.now (L.f+2+q))=dW S L.f q:=λq=>rfl;have d:=yh p;clear h K OE p;obtain⟨R,I⟩:=bQ (dW S L.f);rw [<-I] at d⊢;clear I;go_in;go_wp2;go_loopw [5,6] (λm i wr=>∃j:Nat,j<=L.n/\i=iV (j:Int)/\m=iV ((max E (rtop R j):Nat):Int)/\bW w wr) (λ_ i _=>L.n-(intOf i).toNat);case atStart=>exact⟨0,dU _,rfl,by simp [rtop],bi _ _⟩
 case round=>
  obtain⟨j,hj,rfl,rfl,dO⟩:=hrel;have C:=yh dO;have cm:=P.o.later dO;obtain⟨D,G,U,hz,Au,SR⟩:=kQ cm.c0 cm.c2 cm.c3 dO.size (yh (OH (R:=R) (E:=E) (j:=j))) (yh (OI (R:=R) (E:=E) (j:=j)));obtain⟨M,A⟩:=bQ (max E (rtop R j));rw [<-A] at Au SR⊢;have Q:=yh A;clear A cm;by_cases bm:j<L.n
  .have cw:(j:Int)<(L.n:Int):=(by omega);have z:=jF ((O.o.later dO).later (ai (bi wr.heap.size wr))) (L.f+2+j) (by omega) (by omega);have mN:=br Po.o (L.f+2+j) (by omega);have cZ:=Fi.o.now (L.f+2+j);have u:=d.o j;rw [show ((L.f+2+j:Nat):Int)=(L.f:Int)+2+(j:Int) by omega] at z;have xL:IntKind.i64.wrap ((L.f:Int)+2)=(L.f:Int)+2:=(by rw [IntKind.wrap_i64];omega);have aez:IntKind.i64.wrap ((L.f:Int)+2+(j:Int))=(L.f:Int)+2+(j:Int):=(by rw [IntKind.wrap_i64];omega);generalize S.now (L.f+2+j)=l at*;have N:=DN l;have ie:=pG cZ;have VW:=yh (OG (l:=l));have c:=yh (λa b=>(vx (l:=l) a b).1);have t:=(j0 cZ).1;rw [u] at VW c t;clear dO u;go_wp2_with fail;go_region_held3 (λw'=>w'.cell? (aD k 0)=some (pQ r)/\w'.cell? (aD k 2)=some (iV (L.f:Int)))
    (first|exact⟨D,G⟩)
      ((go_at_call 40;refine z.mono ?_;rintro e w1 ⟨g,W,rfl,hFg,aY,bN⟩;have j9:=bN.symm;clear bN;subst j9))
   have fZ:=aY.src;rw [mN] at fZ;have H:=qG (some (aD g 0)) 512 W l wr.drew fZ cZ;clear z aY fZ D G U;go_wp2_with fail;refine H.mono ?_;rintro e w2 ⟨v2,rfl,jo,aW⟩;obtain⟨T,rq,rfl,bo,_,_⟩:=jo.src;obtain⟨dE,wR⟩:=bL (C.o.trans ((ai (bi wr.heap.size wr)).trans aW |>.mono hz)) bo;clear H aW jo bo;by_cases x:(aR l).2=0
   .by_cases k2:(aR l).1.length<12
    .have Z:((aR l).1.length:Int)<12:=(by omega);have y:=yh (Au.o (.inl (by rw [VW.o (.inr k2)];omega)));rw [x];go_wp2;go_roundw;case rel=>exact⟨j+1,by omega,by go_num,by rw [y.o],dE.o⟩
     case measure=>simp [intOf];omega
    .have Z:¬((aR l).1.length:Int)<12:=(by omega);have v:=bw T _ rq _ w2 wR.o ie 0 4 (by omega) (by omega) (by omega);rw [<-c.o x (by omega),show (((0:Nat)):Int)=0 from rfl,show (((4:Nat)):Int)=4 from rfl] at v;rw [x];clear c VW;obtain⟨X,J⟩:=bQ ((R j).e);rw [<-J] at v t Au SR;clear J;go_wp2_with fail;refine bE v λw3 eB=>?_;have eS:=eB.symm;clear eB v;subst eS;by_cases x1:X<1
     .have y1:¬(1:Int)<=(X:Int):=(by omega);go_wp2;go_roundw;case rel=>exact⟨j+1,by omega,by go_num,by rw [(yh (Au.o (.inl x1))).out],dE.o⟩
      case measure=>simp [intOf];omega
     .have y1:(1:Int)<=(X:Int):=(by omega);by_cases x2:1073741824<X
      .have y2:¬(X:Int)<=1073741824:=(by omega);go_wp2;go_roundw;case rel=>exact⟨j+1,by omega,by go_num,by rw [(yh (Au.o (.inr (.inl x2)))).out],dE.o⟩
       case measure=>simp [intOf];omega
      .have y2:(X:Int)<=1073741824:=(by omega);by_cases x3:M<X
       .have y3:(M:Int)<(X:Int):=(by omega);go_wp2;go_roundw;case rel=>exact⟨j+1,by omega,by go_num,by rw [(yh (SR.o (by omega) x3)).out],dE.o⟩
        case measure=>simp [intOf];omega
       .have y3:¬(M:Int)<(X:Int):=(by omega);go_wp2;go_roundw;case rel=>exact⟨j+1,by omega,by go_num,by rw [(yh (Au.o (.inr (.inr (by omega))))).out],dE.o⟩
        case measure=>simp [intOf];omega
   .have d1:(((aR l).2:Int) == 0)=false:=(by rw [eG];omega);have Y:(((aR l).2:Int) != 0)=true:=(by rw [fT];omega);have y:=yh (Au.o (.inl (by rw [VW.o (.inl x)];omega)));go_wp2;go_roundw;case rel=>exact⟨j+1,by omega,by go_num,by rw [y.o],dE.o⟩
    case measure=>simp [intOf];omega
  .obtain rfl:j=L.n:=(by omega);have vQ:¬(L.n:Int)<(L.n:Int):=(by omega);go_wp2;go_ret;exact⟨by rw [<-Q.o];rfl,C.o⟩
end
end
section
theorem Aw {R:Nat->PC} {P:Nat}:∀c,1<=c->(R P).d.length<=(kV R P c).length
 |0,h=>by omega
 |c+1,_=>by
  rw [iq,dT];by_cases e:c=0
  .subst e;rw [Nat.add_zero];omega
  .have:=Aw (R:=R) (P:=P) c (by omega);omega
theorem Rec.some (h:Rec R E P c d):0<d.length:=by
 have a:=(h.2.2.1 0 (by have:=h.1;omega)).2.2.2.2.1;rw [Nat.add_zero] at a;have:=Aw (R:=R) (P:=P) c h.1;rw [h.2.2.2];omega
section
variable {w w':World} {F G:Nat->Prop} {r s k:Nat} {S:DS} {L:LG}
structure ST (w':World) (B k r:Nat) (L:LG) (S:DS) (v:Value) (rs:List (List Int)) (hd:Nat):Prop where
 rc:dQ w' B v rs (λ_=>False)
 t:dC (Rp (dW S L.f) L.n) (bV S L.f).1 (bV S L.f).2.1 rs hd
 x:∀c d,¬Rec (Rp (dW S L.f) L.n) (bV S L.f).1 hd c d
 p:cH w' k r {L with ep:=(bV S L.f).1,tail:=(bV S L.f).2.1,head:=hd,top:=ia S L.f L.n}
def qY (w w':World) (r s:Nat) (S:DS) (f n:Int) (e:Ending):Prop:=
 if (bu S s f n).1≠0 then e= .returned (.tuple #[.pointer none, .slice none 0 0,iV (bu S s f n).1])
 else∃k v rs hd,e= .returned (.tuple #[pQ k,v,iV 0])/\w.heap.size<=k/\ST w' w.heap.size k r (LG.new S f.toNat n.toNat) S v rs hd
theorem cH.J0 (h:cH w k r L) (T:Nat):cH (w.setCell ⟨k,7,none⟩ (.int .i64 (T:Int))) k r {L with top:=T}:=
   (heap_setCell_same _ _ 7 _ _ _ h).trans (by simp)
theorem cH.aao (h:cH w k r L) (T:Int) (n:Nat) (a:T=(n:Int)):cH (w.setCell ⟨k,6,none⟩ (.int .i64 T)) k r {L with head:=n}:=by
 subst a;exact(heap_setCell_same _ _ 6 _ _ _ h).trans (by simp)
theorem dQ.marked {B:Nat} (h:dQ w B v rs X) (f:cH w k r L) (j:Nat) (u:Value):dQ (w.setCell ⟨k,j,none⟩ u) B v rs X:=by
 have dG:∀(g:Nat) (t:TypeId) (cur:Array Value),w.heap[g]? =some (Obj.cells cur t (0,0))->t≠200->(w.setCell ⟨k,j,none⟩ u).heap[g]? =w.heap[g]? :=λg t cur a i=>by
  have:g≠k:=λe=>by subst e;exact tN a f i
  exact(aJ (F:=λb=>b=k) w rfl j u).block g (aw a) this
 refine h.step (λg d=>?_) (λg cur a _=>dG g _ cur a (by decide)) (λ_ _ h=>h);obtain⟨l,c,_⟩:=h;obtain⟨cur,a⟩:=bJ c d;exact dG g _ cur a (by decide)
theorem OJ {B:Nat} (h:dQ W B v rs (λ_=>False)) (l:ay W 5 g c (bs d)) (p:B<=g) (Ur:B<=W.heap.size) (pi:rs.length<=1000000):
  ∃v' w',(Builtin.append_ #[62,62] 62 #[v, .slice (some (aD W.heap.size 0)) 1 1]).run prog (W.alloc (.cells #[.slice (some ⟨g,0,none⟩) d.length c] 36))= .ok v' w'/\dQ w' B v' (rs ++ [d]) (λ_=>False)/\Below B W w'/\∀(b:Nat) (cur:Array Value),W.heap[b]? =some (.cells cur 200 (0,0))->w'.heap[b]? =some (.cells cur 200 (0,0)):=by
 obtain⟨u,e,o⟩:=h;obtain⟨t,QU,w',bC,s,f⟩:=L8 e (.slice (some (aD g 0)) d.length c) rfl pi Ur;have lj:=aI W (.cells #[.slice (some ⟨g,0,none⟩) d.length c] 36);have Yw:=em e (λx a=>by
  obtain⟨cur,q⟩:=bJ e a;exact lj.block x (aw q))
 refine⟨_,w',bC,Cv Yw (λi r=>?_) (l.agree (lj.block g l.lt)) p s f,?_,λb cur k=>?_⟩
 .obtain⟨x,y,m,j,n,_⟩:=o i r;exact⟨x,y,m,j.agree (lj.block x j.lt),n⟩
 .exact(lj.mono Ur).grown f (jQ Ur lj.size) (λx a=>jn e a)
 .exact pL f (λx a=>bJ Yw a) ((lj.block b (aw k)).trans k) (by decide)
end
end
section
theorem BM {S:DS} {s:Nat} {f n:Int} (h:cq S s f n≠0):bu S s f n=(cq S s f n,S):=by unfold bu;rw [aE h]
theorem i7 {S:DS} {s b:Nat} (h:cq S s a b=0) (c:(bV S a).2.2=6):bu S s a b=(6,S.take):=by
 unfold bu;rw [aA (by omega),Int.toNat_natCast,aE (by omega),c];rfl
theorem K0 {S:DS} {s b:Nat} (h:cq S s a b=0) (d:(bV S a).2.2=0) (c:ia S a b=1073741824):bu S s a b=(41,S.take):=by
 unfold bu;rw [aA (by omega),Int.toNat_natCast,Int.toNat_natCast,aA (by omega),aE c]
theorem Id {S:DS} {s b:Nat} (h:cq S s a b=0) (d:(bV S a).2.2=0) (c:ia S a b≠1073741824):bu S s a b=S.take.fl s:=by
 unfold bu;rw [aA (by omega),Int.toNat_natCast,Int.toNat_natCast,aA (by omega),aA c]
section
variable {w w':World} {F G:Nat->Prop} {r s k:Nat} {S:DS} {L:LG}
theorem ix {f n:Int} {c:Int} {T:DS} (h:bu S s f n=(c,T)) (a:c≠0) (hd:aB w' F r s T) (b:aa F w w'):qY w w' r s S f n (.returned (.tuple #[.pointer none, .slice none 0 0,iV c]))/\aB w' F r s (bu S s f n).2/\aa F w w':=by
 unfold qY;rw [h];exact⟨by rw [aE a],hd,b⟩
theorem Ie {b:Nat} (h:bu S s (a:Int) (b:Int)=S.take.fl s) (c:(S.take.fl s).1=0) (Pv:aB w' F r s (S.take.fl s).2) (d:aa F w w') (ox:w.heap.size<=k) (e:ST w' w.heap.size k r (LG.new S a b) S v rs hd):
  qY w w' r s S (a:Int) (b:Int) (.returned (.tuple #[pQ k,v,iV 0]))/\aB w' F r s (bu S s (a:Int) (b:Int)).2/\aa F w w':=by
 unfold qY;rw [h];refine⟨?_,Pv,d⟩;rw [aA (λh=>h c)];exact⟨k,v,rs,hd,rfl,ox,e⟩
theorem SU {B:Nat} {e:TypeId} {xs:List Value} (h:W.ownsRow B e 1 v n xs) (b:v.ownBlock=some g):g<W.heap.size:=by
 obtain⟨cur,a⟩:=bJ h b;exact aw a
theorem OK (h:aB w F r s S) (cZ:S.fC) (f n:Int) (aT:S.puts.length+500<=4000000000000):
  Calls prog 121 #[pQ r,iV f,iV n] w λe w'=>qY w w' r s S f n e/\aB w' F r s (bu S s f n).2/\aa F w w':=by
 have m:=CD h f n;have ib:=yh h.lt;have HD:=yh h;go_in;go_wp2_with fail;by_cases q:cq S s f n=0
 .have A:=yh q;obtain⟨Y6,a,b,rfl,rfl,oz,aq,aW⟩:=fM q;rw [q] at m;have hs:=h.ok.hi;have U:=zm h;have hlA:=br h.ok a (by omega);have hlB:=br h.ok (a+1) (by omega);have km:=rC (S.now a) (S.now (a+1));have u:bV S a=gU (S.now a) (S.now (a+1)):=rfl;have Fi:=yh cZ;have HN:=yh (λa1 c1 a2 c2 w1 q1 q2=>mn a1 512 c1 (S.now a) a2 512 c2 (S.now (a+1)) w1 q1 q2 (cZ.now a) (cZ.now (a+1)));have mN:=FZ (S.now a) (S.now (a+1));unfold gU at u;generalize am (S.now a) (S.now (a+1))=X at*;obtain⟨x1,N,D,ER⟩:=X;simp only at u km HN mN;have K1:=yh u;clear h q cZ u;refine bE m λw1 bN=>?_;have j9:=bN.symm;clear bN;subst j9;clear m;go_wp2_with fail;refine fk U λH cC aX=>?_;have sj:=yh cC;have gQ:=yh aX;have ec:=aX.size;have h3:=jF cC a (by omega) (by show S.puts.length<=_;omega);have h4:=jF cC (a+1) (by omega) (by show S.puts.length<=_;omega);rw [show ((a+1:Nat):Int)=(a:Int)+1 by omega] at h4;clear U cC aX;go_wp2_with fail;refine h3.mono ?_;rintro e w3 ⟨g3,c3,rfl,_,ml,eB⟩;have eS:=eB.symm;clear eB;subst eS;have fB:=ml.src;rw [show S.take.now a=S.now a from rfl,hlA] at fB;have J:=yh fB;clear h3 ml fB;go_wp2_with fail;refine h4.mono ?_;rintro e w4 ⟨g4,c4,rfl,_,Mw,tD⟩;have Ex:=tD.symm;clear tD;subst Ex;have GH:=Mw.src;rw [show S.take.now (a+1)=S.now (a+1) from rfl,hlB] at GH;have h5:=HN.o (some (aD g3 0)) c3 (some (aD g4 0)) c4 H J.o GH;clear h4 Mw GH HN J;go_wp2_with fail;refine h5.mono ?_;rintro e w5 ⟨v5,rfl,FR,ff⟩;obtain⟨a5,c5,rfl,Xx,_,_⟩:=FR.src;have jd:=yh ff;have qE:=ff.size;have l:Yh (aa F w w5):=gQ.o.trans (aa.ah F ff) (λ_ h=> .inl h);have k:=yh (sj.o.later ff);clear h5 FR ff Xx;have q1:(N:Int).tdiv 4294967296=((N / 4294967296:Nat):Int):=by rw [Int.tdiv_eq_ediv_of_nonneg (by omega)];omega
  have q2:(N:Int).tmod 4294967296=((N%4294967296:Nat):Int):=by rw [Int.tmod_eq_emod_of_nonneg (by omega)];omega
  have hE0:N / 4294967296<=2147483647:=by omega
  have hT0:N%4294967296<4294967296:=by omega
  obtain⟨E,hE⟩:=bQ (N / 4294967296);obtain⟨T,hT⟩:=bQ (N%4294967296);obtain⟨R,sX⟩:=bQ D.length;rw [<-hE] at q1 hE0 K1;rw [<-hT] at q2 hT0 K1;rw [<-sX] at K1 mN⊢;clear hE hT sX;by_cases k1:ER=0
  .subst k1;by_cases k2:0<R
   .have j:=yh (i7 (b:=b) A.o (by rw [K1.o,aE (.inr (.inl k2))]));have d2:(0:Int)<(R:Int):=(by omega);clear K1;go_wp2;go_ret3;exact ix j.o (by omega) k.o l.o
   .have d2:¬(0:Int)<(R:Int):=(by omega);obtain rfl:R=0:=(by omega);by_cases k3:E<1
    .have j:=yh (i7 (b:=b) A.o (by rw [K1.o,aE (.inr (.inr (.inl k3)))]));have d3:(E:Int)<1:=(by omega);clear K1;go_wp2;go_ret3;exact ix j.o (by omega) k.o l.o
    .have d3:¬(E:Int)<1:=(by omega);by_cases k4:1073741824<E
     .have j:=yh (i7 (b:=b) A.o (by rw [K1.o,aE (.inr (.inr (.inr (.inl k4))))]));have d4:(1073741824:Int)<(E:Int):=(by omega);clear K1;go_wp2;go_ret3;exact ix j.o (by omega) k.o l.o
     .have d4:¬(1073741824:Int)<(E:Int):=(by omega);by_cases k5:1073741824<T
      .have j:=yh (i7 (b:=b) A.o (by rw [K1.o,aE (.inr (.inr (.inr (.inr k5))))]));have d5:(1073741824:Int)<(T:Int):=(by omega);clear K1;go_wp2;go_ret3;exact ix j.o (by omega) k.o l.o
      .have d5:¬(1073741824:Int)<(T:Int):=(by omega);have y:Yh (bV S a=(E,T,0)):=by
        have:=K1.o;rw [aA (by omega)] at this;exact this
       clear K1;have Ms:cH (w5.alloc (.cells (lrC r ⟨a,b,wrap64 (S.life+1),false,E,T,T,0⟩) 200)) w5.heap.size r ⟨a,b,wrap64 (S.life+1),false,E,T,T,0⟩:=heap_alloc_new _ _;have ny:=aI w5 (.cells (lrC r ⟨a,b,wrap64 (S.life+1),false,E,T,T,0⟩) 200);have W:=SQ E (k.o.later ny) Ms Fi.o.take (by show a+2+b<=s;omega) (by show S.puts.length+1<=_;omega) (by omega);have DJ:max E (rtop (dW S.take a) b)=ia S a b:=(by unfold ia;rw [y.o];rfl);rw [show (({f:=a,n:=b,life:=wrap64 (S.life+1),begun:=false,ep:=E,tail:=T,head:=T,top:=0}:LG).f)=a from rfl,show (({f:=a,n:=b,life:=wrap64 (S.life+1),begun:=false,ep:=E,tail:=T,head:=T,top:=0}:LG).n)=b from rfl,DJ] at W;have Ag:=xF (S:=S) (f:=a) (n:=b) (by rw [y.o]);obtain⟨Q,hQ⟩:=bQ (ia S a b);rw [<-hQ] at W Ag;obtain⟨C,HL6,wO⟩:=jS hQ Ms ny;have Mf:(w5.alloc (.cells (lrC r ⟨a,b,wrap64 (S.life+1),false,E,T,T,0⟩) 200)).heap.size=w5.heap.size+1:=(by simp);clear hQ DJ Ms ny;go_wp2_with fail;refine bE W λY vU=>?_;have CV:=HL6.o.later vU;have Fk:Yh (bW H Y):=jd.o.trans ((wO.o.trans (vU.mono (by omega))).mono qE);have c7:=CV.c7;have f7:=CV.fz 7;have CW:=CV.J0 Q;have HL8:=yh CW;have c7':(Y.setCell ⟨w5.heap.size,7,none⟩ (.int .i64 (Q:Int))).cell? (aD w5.heap.size 7)=some (iV (Q:Int)):=CW.c7;have VX:Yh (bW H (Y.setCell ⟨w5.heap.size,7,none⟩ (.int .i64 (Q:Int)))):=Fk.o.setCell (p:=⟨w5.heap.size,7,none⟩) qE _;clear W vU CV CW Fk;by_cases P:Q=1073741824
       .have j:=yh (K0 A.o (by rw [y.o]) (C.o.symm.trans P));have d6:((Q:Int) == 1073741824)=true:=(by rw [P];rfl);clear P;have Uj:Yh (aa F w _):=gQ.o.trans (aa.ah F VX.o) (λ_ h=> .inl h);go_wp2;go_ret3;exact ix j.o (by omega) (yh (sj.o.later VX.o)).out Uj.o
       .have d6:¬(Q:Int)=1073741824:=(by omega);have d6':((Q:Int) == 1073741824)=false:=(by rw [eG];omega);have j:=yh (Id A.o (by rw [y.o]) (λh=>P (C.o.trans h)));go_wp2;generalize Y.setCell ⟨w5.heap.size,7,none⟩ (.int .i64 (Q:Int))=w8 at*;clear c7 c7' f7 P d6 d6';go_loopw [20] (λv wr=>∃(rs:List (List Int)) (hd:Nat),cH wr w5.heap.size r ⟨a,b,wrap64 (S.life+1),false,E,T,hd,Q⟩/\dQ wr H.heap.size v rs (λ_=>False)/\dC (Rp (dW S a) b) E T rs hd/\bW H wr) (λ_ wr=>T+b-(intOf ((wr.cell? (aD w5.heap.size 6)).getD (.bool false))).toNat);case atStart=>exact⟨[],T,HL8.o,dQ.nil _ _ _,dC.nil _ _ _,VX.o⟩
        case round=>
         obtain⟨rs,hd,BA,Vi,Ag,dO⟩:=hrel;have hdb:=dC.round (by omega) (tM (dW S a) b) Ag;have rE:=dC.length Ag;have c6:wr.cell? (aD w5.heap.size 6)=some (iV (hd:Int)):=BA.c6;obtain⟨ic,Mi,Wq,K,l9,Aa,Z⟩:=nW (Wp E hd (sj.o.later dO) BA Fi.o.take (by show a+2+b<=s;omega) (by show 1<=b;omega) (by show S.puts.length+1<=_;omega) (by omega) (by omega)) (yh BA) (yh Vi) (yh Ag) (yh dO) dO.size (yh c6);clear BA Vi Ag dO;go_wp2_with fail;refine ic.mono ?_;rintro e w9 ⟨v9,n9,rfl,hao,A3⟩;have hz9:=A3.size;rcases hao with ⟨c,d,Fj,rfl,az⟩|⟨rfl,rfl,iZ⟩
         .have A2:=Fj.1;have arj:=Fj.2.1;have d9:((c:Int) == 0)=false:=(by rw [eG];omega);obtain⟨g,cg,rfl,hg,aY⟩:=az.U1 Fj.some;obtain⟨v',SV,bC,Dr,aeL,O⟩:=OJ (Wq.o.cells (el A3)) aY (by omega) (by omega) (by omega);have SW:cH SV w5.heap.size r ⟨a,b,wrap64 (S.life+1),false,E,T,hd,Q⟩:=O _ _ (Mi.o.later A3);have c6':SV.cell? (aD w5.heap.size 6)=some (iV (hd:Int)):=SW.c6;have f6:=SW.fz 6;have X1:=K.o.snoc (show Rec (Rp (dW S a) b) E hd c d from Fj);have DM:=dC.round (by omega) (tM (dW S a) b) X1;have ro:=yh bC;have BE:cH (SV.setCell ⟨w5.heap.size,6,none⟩ (.int .i64 ((hd:Int)+(c:Int)))) w5.heap.size r ⟨a,b,wrap64 (S.life+1),false,E,T,hd+c,Q⟩:=SW.aao ((hd:Int)+(c:Int)) (hd+c) (by omega);have HZ:=yh (aF BE (aF (Dr.marked SW 6 (iV ((hd:Int)+(c:Int)))) (aF X1 ((l9.o.trans ((A3.mono Aa).trans aeL)).setCell (p:=⟨w5.heap.size,6,none⟩) qE (iV ((hd:Int)+(c:Int)))))));have aj6:Yh ((SV.setCell ⟨w5.heap.size,6,none⟩ (.int .i64 ((hd:Int)+(c:Int)))).cell? (aD w5.heap.size 6)=some (iV ((hd+c:Nat):Int))):=BE.c6;clear ic A3 bC Dr aeL O SW BE X1 aY az Fj c6;go_wp2_with (at_builtin;refine bj rfl _ _ 62 rfl u20 (.slice (some (aD w9.heap.size 0)) 1 1) _ rfl rfl ro.o ?_);go_wp2;go_roundw;case rel=>exact⟨rs ++ [d],hd+c,HZ.o⟩
          case measure=>
           rw [Z.o,aj6.o];simp [intOf];omega
         .have jL:=Gu (sj.o.later (l9.o.trans (A3.mono Aa))) (by show S.puts.length+1<=_;omega);have aj7:=yh (Wq.o.cells (el A3));have HL9:=yh (Mi.o.later A3);have I:Yh (bW H w9):=l9.o.trans (A3.mono Aa);have sO:=yh iZ;clear ic A3 iZ c6;by_cases G:(S.take.fl s).1=0
          .rw [G] at jL;go_wp2_with fail;refine fk jL λSV SX Ey=>?_;have XK:Yh (aa F w SV):=gQ.o.trans ((aa.ah F I.o).trans Ey (λ_ h=> .inl h)) (λ_ h=> .inl h);have x:=yh SX;have t:=ib.o;have HT:Yh (ST SV w.heap.size w5.heap.size r (LG.new S a b) S u20 rs hd):=by
            refine⟨?_,by show dC (Rp (dW S a) b) (bV S a).1 (bV S a).2.1 rs hd;rw [y.o];exact K.o,by show∀c d,¬Rec (Rp (dW S a) b) (bV S a).1 hd c d;rw [y.o];exact sO.o,?_⟩
            .obtain⟨vs,m,U⟩:=aj7.o.low ec (λ_ h=>h);refine⟨vs,em m (λg hg=>Ey.block g (SU m hg) (λL=>by have:=jn m hg;have:=t _ L;omega)),λi hi=>?_⟩;obtain⟨g,c,e,hr,hb,hx⟩:=U i hi;exact⟨g,c,e,hr.agree (Ey.block g hr.lt (λL=>by have:=t _ L;omega)),hb,hx⟩
            .have e1:({LG.new S a b with ep:=(bV S a).1,tail:=(bV S a).2.1,head:=hd,top:=ia S a b}:LG)=⟨a,b,wrap64 (S.life+1),false,E,T,hd,Q⟩:=(by rw [y.o,C.o];rfl);show cH SV w5.heap.size r ({LG.new S a b with ep:=(bV S a).1,tail:=(bV S a).2.1,head:=hd,top:=ia S a b}:LG);rw [e1];exact HL9.o.au Ey (λL=>by have:=t _ L;omega)
           have HK7:=yh G;clear jL SX Ey G t;go_wp2;go_ret3;exact Ie j.o HK7.o x.o XK.o (by omega) HT.o
          .have M:=lf G;have d7:((S.take.fl s).1 == 0)=false:=(by rw [eG];exact G);have d7':((S.take.fl s).1 != 0)=true:=(by rw [fT];exact G);have HP3:Yh (bu S s (a:Int) (b:Int)=(3,(S.take.fl s).2)):=by
            rw [j.o];exact Prod.ext M.2.2 rfl
           obtain⟨z,hz⟩:=bQ ((S.take.fl s).1);rw [<-hz] at jL d7 d7';clear G M hz;go_wp2_with fail;refine fk jL λSV SX Ey=>?_;have XK:Yh (aa F w SV):=gQ.o.trans ((aa.ah F I.o).trans Ey (λ_ h=> .inl h)) (λ_ h=> .inl h);have x:=yh SX;clear jL SX Ey;go_wp2;go_ret3;exact ix HP3.o (by omega) x.o XK.o
  .have j:=yh (i7 (b:=b) A.o (by rw [K1.o,aE (.inl k1)]));have d1':((ER:Int) != 0)=true:=(by rw [fT];omega);clear K1;go_wp2;go_ret3;exact ix j.o (by omega) k.o l.o
 .have d:(cq S s f n == 0)=false:=by rw [eG];exact q
  have d':(cq S s f n != 0)=true:=by rw [fT];exact q
  refine bE m λw1 bN=>?_;have j9:=bN.symm;clear bN;subst j9;clear m;go_wp2;go_ret3;exact ix (yh (BM q)).out q HD.o (aa.refl _ _)
end
end
section
def eD (w:World) (F:Nat->Prop) (r s:Nat) (S:DS) (e:Ending) (w':World):Prop:=∃x S',jP S s x S'/\aa F w w'/\((x≠0/\e= .returned (.tuple #[.pointer none,iV x])/\aB w' (more F w w') r s S')\/(x=0/\∃(k kl:Nat) (L:LG) (F' X:Nat->Prop),sR S s L/\e= .returned (.tuple #[pQ k,iV 0])/\(∀j,F' j->more F w w' j)/\(∀j,X j->w.heap.size<=j)/\aB w' F' r s S'/\iz w' F' X r s S' k kl ⟨cz (S.now 0),L, [],false⟩ (.slice none 0 0) [] 0 (.pointer none)))
section
variable {w w':World} {F:Nat->Prop} {r s:Nat} {S:DS}
theorem If (hd:aB w F r s S) (b:S.fuse=0):
  Calls prog 68 #[pQ r] w λe w'=>eD w F r s S e w':=by
 have a:=j3 hd;rw [show (S.fuse == 0)=true by simp [b]] at a;go_in;go_wp2_with fail;refine bE a λw1 bN=>?_;subst bN;go_wp2;go_ret2;exact⟨3,S, .inl ⟨.inl ⟨b,rfl,rfl⟩,by decide,rfl⟩,aa.refl _ _, .inl ⟨by decide,rfl,hd.mono (λ_ h=> .inl h) (λk c=>c.elim (λh=>hd.lt k h) (λh=>h.2))⟩⟩
theorem eD.bad (hd:aB w F r s S) (c:S.fuse≠0) (iZ:¬lT (S.now 0) s) (a:bW w w'):eD w F r s S (.returned (.tuple #[.pointer none,iV 6])) w':=by
 have h:=hd.later a;exact⟨6,S, .inl ⟨.inr (.inr ⟨c,iZ,rfl,rfl⟩),by decide,rfl⟩,aa.ah _ a, .inl ⟨by decide,rfl,h.mono (λ_ h=> .inl h) (λk d=>d.elim (λb=>h.lt k b) (λh=>h.2))⟩⟩
theorem Mx {S:DS} {s:Nat}:(L.start S s).2.2.f+2+(L.start S s).2.2.n=L.f+2+L.n:=by
 unfold LG.start;split
 .rfl
 .split
  .rfl
  .split <;> rfl
theorem eD.fail (bm:∀j,F j->j<w.heap.size) (l6:jP S s x S') (d:x≠0) (hd:aB w' F7 r s S') (b:∀j,F7 j->more F w w' j) (a:aa F w w'):eD w F r s S (.returned (.tuple #[.pointer none,iV x])) w':=
   ⟨x,S',l6,a, .inl ⟨d,rfl,hd.mono b (λj c=>c.elim (λh=>iP (bm j h) a.size) (λh=>h.2))⟩⟩
theorem eD.done {l a:World} {e:Nat} (q:y=cz (S.now 0)) (o:∀j,F j->j<w.heap.size) (l6:jP S s 0 S') (mL:sR S s L) (m:∀j,F7 j->more F w l j) (gy:aa F w l) (mb:w.heap.size<=e) (OL:¬F7 e) (aro:e<l.heap.size) (nU:aB a (more F7 l a) r s S') (CW:cH a e r L) (jv:aa (λj=>F7 j\/j=e) l a) (x8:L.Ok s) (vm:L.begun=true) (XB:y.home+y.blocks<=s) (BE:L.f+2+L.n<=y.home):
  eD w F r s S (.returned (.tuple #[pQ a.heap.size,iV 0])) (a.alloc (.cells (rsC r e y (.slice none 0 0) 0 (.pointer none)) 129)):=by
 have VY:=jv.size;have oZ:bW a (a.alloc (.cells (rsC r e y (.slice none 0 0) 0 (.pointer none)) 129)):=(bi a.heap.size a).alloc (bP _) _;have ef:(a.alloc (.cells (rsC r e y (.slice none 0 0) 0 (.pointer none)) 129)).heap.size=a.heap.size+1:=by simp
 refine⟨0,S',l6,?_, .inr ⟨rfl,a.heap.size,e,L,more F7 l a,(λj=>j=a.heap.size\/j=e),mL,rfl,λj d=>?_,λj d=>?_,nU.later oZ,?_⟩⟩
 .refine(gy.trans jv (λj d=>?_)).trans (aa.ah (λ_=>False) oZ) (λ_ h=>h.elim);rcases d with d|d
  .exact(m j d).imp id (λh=>h.1)
  .exact .inr (by omega)
 .rcases d with d|d
  .exact(m j d).imp id (λh=>⟨h.1,by omega⟩)
  .exact .inr ⟨by omega,by omega⟩
 .rcases d with d|d <;> omega
 .subst q;refine⟨heap_alloc_new _ _,CW.later oZ,Pl.nil _ _, .inl rfl, .inr rfl,λg i k=>?_,λg i=>?_,x8,vm,XB,BE,rfl,dU _,λx k=>(by cases k),λ_ b _ _ c p=>(by cases p)⟩
  .rcases i with i|i
   .have:=nU.lt g k;omega
   .rcases k with k|k
    .exact OL (i▸k)
    .omega
  .rcases i with i|i <;> omega
theorem Ig (hd:aB w F r s S) (hf:S.fuse≠0) (cZ:S.fC) (aT:S.puts.length+6000<=4000000000000):
  Calls prog 68 #[pQ r] w λe w'=>eD w F r s S e w':=by
 have h1:=j3 hd;rw [show (S.fuse == 0)=false by simp [hf]] at h1;have xZ:=hd.ok.lo;have km:=hd.ok.hi;have h2:=jF hd 0 (by omega) (by omega);have hl:=br hd.ok 0 (by omega);have hbn:=cZ.now 0;obtain⟨HSi,K,HF,UA⟩:=Bg (C0 hbn hl) hd hf hbn;have Fi:=yh cZ;clear hd hf;go_in;go_wp2_with fail;refine bE h1 λw1 bN=>?_;subst bN;clear h1;go_wp2_with fail;refine h2.mono ?_;rintro e w2 ⟨g,c,rfl,hFg,hr,dw⟩;subst dw;have h3:=BK g 0 c (S.now 0) w2 hl UA.o (λi Q=>by have:=hr.src.2.2 _ rfl i (by rw [hl];exact Q);rwa [aK] at this);clear h2 hr;go_wp2_with fail;refine h3.mono ?_;rintro e w3 ⟨v,x,rfl,l6,bz⟩;clear h3
 rename World=>W0
 rcases l6 with ⟨h0,rfl,rfl⟩|⟨h0,rfl,rfl⟩
 .have Ih:oI (S.now 0):=HSi.o.2 h0;have uv:=h0.1;clear h0;obtain⟨W,O⟩:∃W,W=W0.alloc (.cells #[.int .i64 ((u32 (S.now 0) 8:Nat):Int), .int .i64 ((u32 (S.now 0) 12:Nat):Int), .int .i64 ((u32 (S.now 0) 16:Nat):Int)] 39):=⟨_,rfl⟩;have lj:W.heap[W0.heap.size]? =some (.cells #[.int .i64 ((u32 (S.now 0) 8:Nat):Int), .int .i64 ((u32 (S.now 0) 12:Nat):Int), .int .i64 ((u32 (S.now 0) 16:Nat):Int)] 39 (0,0)):=by rw [O];exact heap_alloc_new _ _
  have Ur:bW w2 W:=by rw [O];exact bz.alloc bz.size _
  have arp:=bz.size;have Hv:W.heap.size=W0.heap.size+1:=by rw [O,World.size_alloc]
  go_wp2_with fail;rw [<-O];clear O bz;have hdW:=K.o.later Ur;have c0:=aL lj;have nJ:=λk=>mv (hdW.later (below_drewN (bi _ _) k));have HW:=yh (aF hdW (aF Ur lj));clear hdW Ur lj;by_cases o7:u32 (S.now 0) 8=s
  .have Wl:(((u32 (S.now 0) 8:Nat):Int) != ((s:Nat):Int))=false:=(by rw [o7];simp);have K2:Yh (lT (S.now 0) s):=yh ⟨Ih,o7⟩;have Z7:=yh o7;clear o7;go_quiet (first|(go_at_call 11;refine Calls.quiet_of_same (nJ _)));rename_i nq _;have H:bW W (W.drewN nq):=below_drewN (bi _ _) nq;have eV:=yh (aF (HW.o.1.later H) (aF (HW.o.2.1.trans (H.mono HW.o.2.1.size)) ((H.block W0.heap.size (by omega)).trans HW.o.2.2)));have arq:(W.drewN nq).heap.size=W0.heap.size+1:=Hv;clear HW c0 nJ H Hv;generalize W.drewN nq=V at*;have x0:=aL eV.o.2.2;have x1:V.cell? (aD W0.heap.size 1)=some (iV ((u32 (S.now 0) 12:Nat):Int)):=bD eV.o.2.2;have x2:=bH eV.o.2.2;have h3g:((u32 (S.now 0) 12:Nat):Int)+((u32 (S.now 0) 16:Nat):Int) / 4+6<=(s:Int):=by
    have:=uv;unfold vq at this;rw [Z7.o] at this;omega
   have SY:Calls prog 61 #[.agg #[iV ((u32 (S.now 0) 8:Nat):Int),iV ((u32 (S.now 0) 12:Nat):Int),iV ((u32 (S.now 0) 16:Nat):Int)]] V λe w'=>e= .returned (.tuple #[Pr (cz (S.now 0)),iV 0])/\bW V w':=by
    refine(vz ((u32 (S.now 0) 8:Nat):Int) ((u32 (S.now 0) 12:Nat):Int) ((u32 (S.now 0) 16:Nat):Int) V).mono ?_;rintro e d ⟨v,x,rfl,hpo,My⟩;rcases hpo with ⟨_,rfl,rfl⟩|⟨h9,_⟩
    .refine⟨?_,My⟩;rw [show ((u32 (S.now 0) 8:Nat):Int)=(s:Int) by rw [Z7.o]];exact Sx (S.now 0) Z7.o h3g
    .exact absurd uv h9
   have I:=kh K2.o;have hyl:((u32 (S.now 0) 12:Nat):Int)=((cz (S.now 0)).log:Int):=rfl;obtain⟨y,hy⟩:=bQ (cz (S.now 0));rw [<-hy] at SY I hyl;obtain⟨a,HYl⟩:=bL hy hyl;clear uv Ih h3g hyl hy;go_wp2_with fail;refine bE SY λd My=>?_;clear SY;have X3:=My.size;obtain⟨U,hU⟩:∃U,U=d.alloc (.cells #[.int .i64 (y.log:Int), .int .i64 (y.home:Int), .int .i64 (y.blocks:Int), .int .i64 (y.nodes:Int), .int .i64 (y.data:Int)] 86):=⟨_,rfl⟩;have hux:U.heap[d.heap.size]? =some (.cells #[.int .i64 (y.log:Int), .int .i64 (y.home:Int), .int .i64 (y.blocks:Int), .int .i64 (y.nodes:Int), .int .i64 (y.data:Int)] 86 (0,0)):=(by rw [hU];exact heap_alloc_new _ _);have Us:bW w2 U:=(by rw [hU];exact(eV.o.2.1.trans (My.mono eV.o.2.1.size)).alloc (by omega) _);have hzU:U.heap.size=d.heap.size+1:=(by rw [hU,World.size_alloc]);have x1U:U.cell? (aD W0.heap.size 1)=some (iV (y.log:Int)):=by
    have e1:bW V U:=(by rw [hU];exact My.alloc X3 _);rw [<-HYl.o];exact iu e1 (by omega) x1
   have hdU:=K.o.later Us;have l7:=OK hdU Fi.o 1 (y.log:Int) (by omega);have HU:=yh (aF hdU (aF Us hux))
   dsimp only [Pr]
   clear x0 x1 x2 My hdU Us hux
   go_upto_region 7 with fail
   rw [<-hU];clear hU;go_wp2_with fail;refine l7.mono ?_;rintro e w4 ⟨uw,P,dV⟩;clear l7 x1U;have vS:=dV.size;have Mz:=λj b=>K.o.lt j b;have BN:=(aa.ah F HU.o.2.1).trans dV (λ_ h=> .inl h);have aaq:=(dV.block d.heap.size (by omega) (λhF=>by have:=Mz _ hF;omega)).trans HU.o.2.2;unfold qY at uw;by_cases q:(bu S s 1 (y.log:Int)).1=0
   .rw [aA (λh=>h q)] at uw;obtain⟨kl,v,rs,hd,rfl,mb,ht⟩:=uw;have Fl:jH S 1 y.log rs hd:=⟨ht.t,ht.x⟩;have aeN:cH w4 kl r (eZ S 1 y.log hd):=ht.p;obtain⟨Wr,Ez,Ii,Ij⟩:=lV (f:=1) q;obtain⟨uS,CA,_,_⟩:=Fl.small Fi.o (by omega);have xn:=xQ (s:=s) Fl Fi.o Ez Ii (by omega) (by omega) (by omega);obtain⟨ta,tn,tc,hv,X1,uT⟩:=ht.rc.aeF.shape;subst hv X1;obtain⟨A,HL4,HD4,Sd,HUx,HCl,Wg,M,G,N⟩:=abX Fl aeN P BN aaq uT CA (aF Ez (aF Ii Ij)) xn q;have dq:((bu S s 1 (y.log:Int)).1 != 0)=false:=(by rw [q];rfl);have hyb:=I.2.2.2.2;clear ht Fl aeN P dV BN aaq uT CA Wr Ez Ii Ij xn eV q;go_wp2;go_loopw [11,12] (λv i wr=>∃(j:Nat) (ps:List (Nat×List Int)),j<=rs.length/\i=iV (j:Int)/\rdAll y.blocks [] rs=rdAll y.blocks (CM.bX [] ps) (rs.drop j)/\(∀x∈ps,x.1<y.blocks)/\ps.length<=16*j/\Pn wr (λj=>w4.heap.size<=j) w4.heap.size v ps/\bW w4 wr) (λ_ i _=>rs.length-(intOf i).toNat);case atStart=>exact⟨0, [],dU _,rfl,rfl,λx z=>(by cases z),dU _,Pn.nil _ _ _,bi _ _⟩
    case round=>
     obtain⟨j,ps,b,rfl,bR,O9,pf,nr,dO⟩:=hrel;obtain⟨Aa,Jb,l9,HPk⟩:=cM dO.size (yh nr) (yh dO) (yh O9);by_cases qj:j<rs.length
     .have ZO:(j:Int)<(rs.length:Int):=(by omega);obtain⟨tb,tg,D,rfl,p1,aY⟩:=HCl.o j qj;have aeO:∀{g o:Nat} {u:Value},w4.cell? (aD g o)=some u->wr.cell? (aD g o)=some u:=λhc=>di (aa.ah (λ_=>False) dO) (λh=>h) hc;have T:=aeO p1;have R:wr.cell? (aD d.heap.size 2)=some (iV (y.blocks:Int)):=aeO (bH HUx.o);have Ik:=aY.agree (dO.block tg aY.lt);have vi:=List.drop_eq_getElem_cons qj;rw [vi,sS] at bR;have Fj:=H9 (some (aD tg 0)) (rs[j]).length D rs[j] wr.drew (Ik.src.later (ai (bi _ _))) (Wg.o _ (List.getElem_mem qj)).1 (Wg.o _ (List.getElem_mem qj)).2 (by have:=Ik.le;simpa [bs] using this) (by have:=Ik.max;unfold maxLen at this;omega) y.blocks hyb;cases JY:rdRec y.blocks rs[j] with
      |none=>
       rw [JY] at bR Fj;have SZ:Calls prog 122 #[.slice (some (aD tg 0)) (rs[j]).length D,iV (y.blocks:Int)] wr.drew λe w'=>e= .returned (.tuple #[.slice none 0 0, .bool false])/\bW wr w':=Fj.mono (by
        rintro e w' ⟨ho,hb⟩;rcases ho with ⟨_,rfl⟩|⟨cs,v',h0,_⟩
        .exact⟨rfl,(ai (bi _ _)).trans hb⟩
        .cases h0)
       obtain⟨Wq,OF⟩:=bL SZ bR;clear Fj SZ nr dO O9 p1 aY Ik bR;go_wp2_with fail;go_region_held3 (λw'=>w'.cell? (aD tb j)=some (.slice (some (aD tg 0)) (rs[j]).length D)/\w'.cell? (aD d.heap.size 2)=some (iV (y.blocks:Int)))
        (first|exact⟨T,R⟩|exact Vm)
          ((go_at_call 122;refine Wq.o.mono ?_;rintro e w5 ⟨rfl,ff⟩;have Vm:w5.cell? (aD tb j)=some (.slice (some (aD tg 0)) (rs[j]).length D)/\w5.cell? (aD d.heap.size 2)=some (iV (y.blocks:Int)):=⟨di (aa.ah (λ_=>False) ff) (λh=>h) T,di (aa.ah (λ_=>False) ff) (λh=>h) R⟩))
       have jd:=yh (l9.o.trans (ff.mono Aa));clear Vm ff;go_wp2;go_ret2;have A3:=jd.o;exact eD.fail (F7:=F) Mz (.inr ⟨K2.o,HF.o, .inr ⟨by rw [<-a.o];exact N.o,rs,hd,by rw [<-a.o];exact A.o, .inl ⟨by rw [<-a.o];exact OF.o,rfl,by rw [<-a.o]⟩⟩⟩) (by decide) (HD4.o.later A3) (λ_ h=> .inl h) (Sd.o.trans (aa.ah (λ_=>False) A3) (λ_ h=>h.elim))
      |some cs=>
       rw [JY] at bR Fj;have Fr:=OD JY;have ZF:=sN JY;have SZ:Calls prog 122 #[.slice (some (aD tg 0)) (rs[j]).length D,iV (y.blocks:Int)] wr.drew λe w'=>∃v',e= .returned (.tuple #[v', .bool true])/\Pn w' (λj=>wr.heap.size<=j) wr.heap.size v' cs/\bW wr w':=Fj.mono (by
        rintro e w' ⟨ho,hb⟩;rcases ho with ⟨h0,_⟩|⟨cs',v',h0,rfl,hp⟩
        .cases h0
        .cases h0;exact⟨v',rfl,hp,(ai (bi _ _)).trans hb⟩)
       obtain⟨Wq,OF,HCk⟩:=jS SZ bR ZF;clear Fj SZ nr dO O9 p1 aY Ik bR ZF JY;go_wp2_with fail;go_region_held3 (λw'=>w'.cell? (aD tb j)=some (.slice (some (aD tg 0)) (rs[j]).length D)/\w'.cell? (aD d.heap.size 2)=some (iV (y.blocks:Int)))
        (first|exact⟨T,R⟩|exact Vm)
          ((go_at_call 122;refine Wq.o.mono ?_;rintro e w5 ⟨v',rfl,Sk,ff⟩;have Vm:w5.cell? (aD tb j)=some (.slice (some (aD tg 0)) (rs[j]).length D)/\w5.cell? (aD d.heap.size 2)=some (iV (y.blocks:Int)):=⟨di (aa.ah (λ_=>False) ff) (λh=>h) T,di (aa.ah (λ_=>False) ff) (λh=>h) R⟩))
       have qE:=ff.size;obtain⟨g2,bZ,X,bC,aeP,ji⟩:=(Jb.o.later ff).cat Sk (λi (Q:wr.heap.size<=i)=>(jQ Aa Q:w4.heap.size<=i)) (by omega) (by omega) (by omega);have ny:=(l9.o.trans (ff.mono Aa)).trans (ji.below (λi Q=>Jb.o.lo i Q) (by omega));obtain⟨l,ro⟩:=bL (aF aeP ny) bC;clear Vm ff Sk bC aeP ji ny;go_wp2_with (at_builtin;refine bj rfl _ _ 127 rfl u11 v' _ rfl rfl ro.o ?_);go_roundw;case rel=>exact⟨j+1,ps ++ cs,by omega,by go_num,by rw [pR];exact OF.o,λx z=>(List.mem_append.1 z).elim (HPk.o x) (HCk.o x),by rw [dT];omega,l.o⟩
       case measure=>simp [intOf];omega
     .have ZO:¬(j:Int)<(rs.length:Int):=(by omega);obtain rfl:j=rs.length:=(by omega);rw [List.drop_length] at bR;have uF:rdAll y.blocks [] rs=some (CM.bX [] ps):=bR;obtain⟨A3,j7,BA,Ws⟩:=cM dO (HD4.o.later dO) (HL4.o.later dO) (Sd.o.trans (aa.ah (λ_=>False) dO) (λ_ h=>h.elim));have Il:=(dO.block d.heap.size (by omega)).trans HUx.o;have art:=HL4.o.lt;have OL:¬F kl:=λhF=>by have:=Mz _ hF;omega
      have aat:(bu S s 1 (y.log:Int)).2.puts= []:=by
       have:=N.o;rw [show bu S s 1 (y.log:Int)=S.take.fl s from M.o.2.2] at this⊢;exact jf this
      have aau:(bu S s 1 (y.log:Int)).2.fC:=by
       rw [show bu S s 1 (y.log:Int)=S.take.fl s from M.o.2.2];exact Fi.o.take.fl s
      have aav:∀i,i<s->(bu S s 1 (y.log:Int)).2.now i=S.now i:=λi Q=>by
       rw [show bu S s 1 (y.log:Int)=S.take.fl s from M.o.2.2];exact eU (S:=S.take) ⟨K.o.ok.len,K.o.ok.lo,K.o.ok.hi,K.o.ok.puts,K.o.ok.fuse⟩ Q
      clear nr dO O9 bR;have aeQ:w2.heap.size<=kl:=(by omega);have aeR:(eZ S 1 y.log hd).f+2+(eZ S 1 y.log hd).n<=y.home:=(by show 1+2+y.log<=y.home;rw [a.o];exact Nat.le_of_eq (by show 1+2+u32 (S.now 0) 12=3+u32 (S.now 0) 12;omega));have Jv:S.num 1<((eZ S 1 y.log hd).top+1)*4294967296:=Et M.o.1;obtain⟨m,X5⟩:∃m,m=(bu S s 1 (y.log:Int)).2:=⟨_,rfl⟩;rw [<-X5] at j7 aat aau aav;have oN:=yh X5;have S9:m.num 1<((eZ S 1 y.log hd).top+1)*4294967296:=(by rw [vw (S:=S) (S':=m) (aav 1 (by omega)) (aav 2 (by omega))];exact Jv);have hp0:m.puts.length=0:=(by rw [aat];rfl);have Ed:∀q∈CM.bX [] ps,y.home+q.1<s/\q.2.length=512:=λq H=>⟨by have:=HPk.o q (eO H);have:=I.1;omega,(Jb.o.pl.len q (eO H)).1⟩;have Un:=λq H=>(Jb.o.pl.len q (eO H)).2;have hyh:3<=y.home:=(by rw [a.o];show 3<=3+u32 (S.now 0) 12;omega);clear X5 aat HCl;by_cases q0:rs= []
      .have dl:¬(0:Int)<(rs.length:Int):=(by rw [q0];decide);have I5:Yh (ee m s y (CM.bX [] ps) rs=(0,m)):=yh (by unfold ee;rw [aE q0]);clear q0;have bt:=Ah j7 BA G.o OL aau (by omega) (λ_ _=>S9);have rN:=sQ (S:=m) G.o;have oJ:=Ar (L:=eZ S 1 y.log hd) (S:=m) (s:=s) (j7).ok rfl (by show 1+1<s;omega) S9 G.o.top;have Im:Yh (jP S s ((eZ S 1 y.log hd).start m s).1 ((eZ S 1 y.log hd).start m s).2.1):=yh (.inr ⟨K2.o,HF.o, .inr ⟨by rw [<-a.o];exact N.o,rs,hd,by rw [<-a.o];exact A.o, .inr ⟨CM.bX [] ps,by rw [<-a.o];exact uF, .inr ⟨by rw [<-a.o,<-oN.o,I5.o],by rw [<-a.o,<-oN.o,I5.o],by rw [<-a.o,<-oN.o,I5.o]⟩⟩⟩⟩);have Ta:Yh (sR S s ((eZ S 1 y.log hd).start m s).2.2):=yh ⟨rs,hd,CM.bX [] ps,by rw [<-a.o];exact A.o,by rw [<-a.o];exact uF,by rw [<-a.o,<-oN.o,I5.o]⟩;have J:=yh rN;by_cases C:((eZ S 1 y.log hd).start m s).1=0
       .have ds:(((eZ S 1 y.log hd).start m s).1 != 0)=false:=(by rw [C];rfl);have Wt:=yh C;clear C oJ rN;go_wp2_with fail;refine oX bt λE nU CW jv=>?_;have VY:=jv.size;have vA:=(jv.block d.heap.size (by omega) (λz=>by rcases z with z|z;(have:=Mz _ z;omega);omega)).trans Il;have l0:E.cell? (aD d.heap.size 0)=some (iV (y.log:Int)):=aL vA;have l1:E.cell? (aD d.heap.size 1)=some (iV (y.home:Int)):=bD vA;have l2:E.cell? (aD d.heap.size 2)=some (iV (y.blocks:Int)):=bH vA;have l3:E.cell? (aD d.heap.size 3)=some (iV (y.nodes:Int)):=fI vA;have l4:E.cell? (aD d.heap.size 4)=some (iV (y.data:Int)):=gz vA;have l:=yh (aF nU (aF CW jv));clear bt nU CW jv vA;go_wp2;go_ret2;have l6:=Im.o;rw [Wt.o] at l6;exact eD.done a.o Mz l6 Ta.o (λ_ h=> .inl h) Ws aeQ OL (by omega) l.o.1 l.o.2.1 l.o.2.2 (J.o Wt.o).1 (J.o Wt.o).2 I.1 (by rw [Mx];exact aeR)
       .have ds:(((eZ S 1 y.log hd).start m s).1 != 0)=true:=(by rw [fT];exact C);obtain⟨Wt,h33⟩:=bL C (oJ.resolve_left C);clear C oJ rN;go_wp2_with fail;refine oX bt λE nU CW jv=>?_;have VY:=jv.size;have l:=yh (aF nU jv);clear bt nU CW jv;go_wp2;go_ret2;have l6:=Im.o;rw [h33.out] at l6;exact eD.fail (F7:=more F wr E) Mz l6 (by decide) l.o.1 (λj b=>by rcases b with b|b;exact .inl b;exact .inr ⟨by omega,b.2⟩) (Ws.trans l.o.2 (λj b=>by rcases b with b|b;exact .inl b;exact .inr (by omega)))
      .have dl:(0:Int)<(rs.length:Int):=(by have:=List.length_pos_iff.2 q0;omega);have Wu:=Ad (y:=y) j7 Jb.o.pl.pv (λg hg hF=>by have:=Mz _ hF;rcases hg with hg|hg;omega;have:=Jb.o.lo g hg;omega) I.1 HPk.o (by omega) (by omega);obtain⟨b1,b2,b3,b4,b5⟩:=ev (h0:=y.home) (ms:=CM.bX [] ps) j7.ok Ed;have hYp:=eA m s y.home (CM.bX [] ps);have hYb:=j6 aau s y.home Un;have hol:(CM.bX [] ps).length<=2048:=by
        rcases CM.length_le (n:=2048) (mB ps) (λq H=>by have:=(Ed q H).1;omega) 0 (λ_ _=>dU _) with h1|h1
        .omega
        .rw [h1];simp
       have kP:ee m s y (CM.bX [] ps) rs=if (sbring m s y.home (CM.bX [] ps)).1≠0 then sbring m s y.home (CM.bX [] ps) else (sbring m s y.home (CM.bX [] ps)).2.fl s:=(by unfold ee;rw [aA q0]);have l0:wr.cell? (aD d.heap.size 0)=some (iV (y.log:Int)):=aL Il;have l1:wr.cell? (aD d.heap.size 1)=some (iV (y.home:Int)):=bD Il;have l2:wr.cell? (aD d.heap.size 2)=some (iV (y.blocks:Int)):=bH Il;have l3:wr.cell? (aD d.heap.size 3)=some (iV (y.nodes:Int)):=fI Il;have l4:wr.cell? (aD d.heap.size 4)=some (iV (y.data:Int)):=gz Il;generalize hY9:sbring m s y.home (CM.bX [] ps)=Y at*;clear hY9 q0;by_cases qy:Y.1=0
       .have dy:(Y.1 == 0)=true:=(by rw [qy];rfl);rw [aA (λh=>h qy)] at kP;clear qy;go_wp2_with fail;refine fk Wu λX po ji=>?_;have jL:=fw po (by omega);have Mf:=ji.size;have ake:=(ji.block d.heap.size (by omega) (λz=>by have:=Mz _ z;omega)).trans Il;have Ms:=BA.au ji OL;have Ax:=Ws.trans ji (λ_ h=> .inl h);have Wv:=λi (Q:i<s)=>eU b3 Q;have hZb:=hYb.fl s;have hZp:=lY Y.2 s;have HF6:=yh (λ(j:Nat) (b:more F wr X j)=>(b.imp id (λh=>⟨by omega,h.2⟩):more F w2 X j));generalize hZ9:Y.2.fl s=Z at*;have HZ9:=yh hZ9;clear Wu po ji hZ9 l0 l1 l2 l3 l4;by_cases qz:Z.1=0
        .have dz:(Z.1 == 0)=true:=(by rw [qz];rfl);have I5:Yh (ee m s y (CM.bX [] ps) rs=(0,Z.2)):=yh (by rw [kP];exact Prod.ext qz rfl);clear qz kP;go_wp2_with fail;refine fk jL λw7 nF gy=>?_;have Z2:=gy.size;have Tb:¬more F wr X kl:=λh=>h.elim OL (λh=>by omega);have CV:=Ms.au gy Tb;have akf:=(gy.block d.heap.size (by omega) (λz=>by rcases z with z|z;(have:=Mz _ z;omega);omega)).trans ake;have BO:=Ax.trans gy (λj b=>b.imp id (λh=>by omega));have HF7:=yh (λ(j:Nat) (b:more F wr X j)=>((HF6.o j b).imp id (λh=>⟨h.1,by omega⟩):more F w2 w7 j));have X7:Z.2.num 1<((eZ S 1 y.log hd).top+1)*4294967296:=by
          rw [vw (S:=m) (S':=Z.2) ((Wv 1 (by omega)).trans (b5 1 (λq H e=>by omega))) ((Wv 2 (by omega)).trans (b5 2 (λq H e=>by omega)))];exact S9
         clear jL gy b1 b2 b3 b4 b5 Ed Un Wv j7 BA Il;have bt:=Ah nF CV G.o Tb hZb (by omega) (λ_ _=>X7);have rN:=sQ (S:=Z.2) G.o;have oJ:=Ar (L:=eZ S 1 y.log hd) (S:=Z.2) (s:=s) (nF).ok rfl (by show 1+1<s;omega) X7 G.o.top;have Im:Yh (jP S s ((eZ S 1 y.log hd).start Z.2 s).1 ((eZ S 1 y.log hd).start Z.2 s).2.1):=yh (.inr ⟨K2.o,HF.o, .inr ⟨by rw [<-a.o];exact N.o,rs,hd,by rw [<-a.o];exact A.o, .inr ⟨CM.bX [] ps,by rw [<-a.o];exact uF, .inr ⟨by rw [<-a.o,<-oN.o,I5.o],by rw [<-a.o,<-oN.o,I5.o],by rw [<-a.o,<-oN.o,I5.o]⟩⟩⟩⟩);have Ta:Yh (sR S s ((eZ S 1 y.log hd).start Z.2 s).2.2):=yh ⟨rs,hd,CM.bX [] ps,by rw [<-a.o];exact A.o,by rw [<-a.o];exact uF,by rw [<-a.o,<-oN.o,I5.o]⟩;have J:=yh rN;by_cases C:((eZ S 1 y.log hd).start Z.2 s).1=0
         .have ds:(((eZ S 1 y.log hd).start Z.2 s).1 != 0)=false:=(by rw [C];rfl);have Wt:=yh C;clear C oJ rN;go_wp2_with fail;refine oX bt λE nU CW jv=>?_;have VY:=jv.size;have vA:=(jv.block d.heap.size (by omega) (λz=>by rcases z with z|z;(rcases z with z|z;(have:=Mz _ z;omega);omega);omega)).trans akf;have l0:E.cell? (aD d.heap.size 0)=some (iV (y.log:Int)):=aL vA;have l1:E.cell? (aD d.heap.size 1)=some (iV (y.home:Int)):=bD vA;have l2:E.cell? (aD d.heap.size 2)=some (iV (y.blocks:Int)):=bH vA;have l3:E.cell? (aD d.heap.size 3)=some (iV (y.nodes:Int)):=fI vA;have l4:E.cell? (aD d.heap.size 4)=some (iV (y.data:Int)):=gz vA;have l:=yh (aF nU (aF CW jv));clear bt nU CW jv vA;go_wp2;go_ret2;have l6:=Im.o;rw [Wt.o] at l6;exact eD.done a.o Mz l6 Ta.o HF7.o BO aeQ Tb (by omega) l.o.1 l.o.2.1 l.o.2.2 (J.o Wt.o).1 (J.o Wt.o).2 I.1 (by rw [Mx];exact aeR)
         .have ds:(((eZ S 1 y.log hd).start Z.2 s).1 != 0)=true:=(by rw [fT];exact C);obtain⟨Wt,h33⟩:=bL C (oJ.resolve_left C);clear C oJ rN;go_wp2_with fail;refine oX bt λE nU CW jv=>?_;have VY:=jv.size;have l:=yh (aF nU jv);clear bt nU CW jv;go_wp2;go_ret2;have l6:=Im.o;rw [h33.out] at l6;exact eD.fail (F7:=more (more F wr X) w7 E) Mz l6 (by decide) l.o.1 (λj b=>by rcases b with b|b;exact(HF7.o j b).imp id (λh=>⟨h.1,by omega⟩);exact .inr ⟨by omega,b.2⟩) (BO.trans l.o.2 (λj b=>by rcases b with b|b;exact(HF7.o j b).imp id (λh=>h.1);exact .inr (by omega)))
        .have dz:(Z.1 == 0)=false:=(by rw [eG];exact qz);have dn:(Z.1 != 0)=true:=(by rw [fT];exact qz);have kO:Z.1=3:=by
          have h9:(Y.2.fl s).1≠0:=(by rw [HZ9.o];exact qz);have:=(lf h9).2.2;rwa [HZ9.o] at this
         have HSO:Yh (jP S s 3 Z.2):=yh (.inr ⟨K2.o,HF.o, .inr ⟨by rw [<-a.o];exact N.o,rs,hd,by rw [<-a.o];exact A.o, .inr ⟨CM.bX [] ps,by rw [<-a.o];exact uF, .inl ⟨by rw [<-a.o,<-oN.o,kP];exact kO,by decide,by rw [<-a.o,<-oN.o,kP]⟩⟩⟩⟩);clear qz kO kP;go_wp2_with fail;refine fk jL λw7 nF gy=>?_;have Z2:=gy.size;have BO:=Ax.trans gy (λj b=>b.imp id (λh=>by omega));have l:=yh (aF nF BO);clear jL nF gy BO b1 b2 b3 b4 b5 Ed Un Wv;go_wp2;go_ret2;exact eD.fail (F7:=more F wr X) Mz HSO.o (by decide) l.o.1 (λj b=>(HF6.o j b).imp id (λh=>⟨h.1,by omega⟩)) l.o.2
       .have dy:(Y.1 == 0)=false:=(by rw [eG];exact qy);have dn:(Y.1 != 0)=true:=(by rw [fT];exact qy);rw [aE qy] at kP;have hy3:=b1.resolve_left qy;have HSO:Yh (jP S s 3 Y.2):=yh (.inr ⟨K2.o,HF.o, .inr ⟨by rw [<-a.o];exact N.o,rs,hd,by rw [<-a.o];exact A.o, .inr ⟨CM.bX [] ps,by rw [<-a.o];exact uF, .inl ⟨by rw [<-a.o,<-oN.o,kP];exact hy3,by decide,by rw [<-a.o,<-oN.o,kP]⟩⟩⟩⟩);clear qy hy3 kP;go_wp2_with fail;refine fk Wu λX po ji=>?_;have Mf:=ji.size;have Ax:=Ws.trans ji (λ_ h=> .inl h);have l:=yh (aF po Ax);clear Wu po ji Ax b1 b2 b3 b4 b5 Ed Un l0 l1 l2 l3 l4;go_wp2;go_ret2;exact eD.fail (F7:=more F wr X) Mz HSO.o (by decide) l.o.1 (λj b=>b.imp id (λh=>⟨by omega,h.2⟩)) l.o.2
   .rw [aE q] at uw;subst uw;have dq:((bu S s 1 (y.log:Int)).1 != 0)=true:=(by rw [fT];exact q);obtain⟨l,N⟩:=bL (aF P BN) q;clear P dV BN q aaq;generalize hLO:bu S s 1 (y.log:Int)=LO at*;have HLO:=yh hLO;clear hLO;go_wp2;go_ret2;refine⟨LO.1,LO.2, .inr ⟨K2.o,HF.o, .inl ⟨by rw [<-a.o];exact congrArg Prod.fst HLO.o,N.o,by rw [<-a.o];exact(congrArg Prod.snd HLO.o).symm⟩⟩,l.o.2, .inl ⟨N.o,rfl,l.o.1.mono (λ_ h=> .inl h) (λk hk=>hk.elim (λh=>l.o.1.lt k h) (λh=>h.2))⟩⟩
  .have Wl:(((u32 (S.now 0) 8:Nat):Int) != ((s:Nat):Int))=true:=(by rw [fT];omega);have sO:Yh (¬lT (S.now 0) s):=yh (λh=>o7 h.2);go_quiet (first|(go_at_call 11;refine Calls.quiet_of_same (nJ _)));clear c0 nJ;go_wp2;go_ret2;exact eD.bad K.o HF.o sO.o (HW.o.2.1.trans (below_drewN (bi _ _) _))
 .have sO:Yh (¬lT (S.now 0) s):=yh (λh=>h0 (HSi.o.1 h.1));obtain⟨W,O⟩:=bQ (W0.alloc (.cells #[.int .i64 0, .int .i64 0, .int .i64 0] 39));have Ur:bW w2 W:=by rw [O];exact bz.alloc bz.size _
  have CQ:=yh Ur;clear h0 bz;go_wp2_with fail;rw [<-O];clear O Ur;go_quiet (fail);go_wp2;go_ret2;exact eD.bad K.o HF.o sO.o (CQ.o.trans (below_drewN (bi _ _) _))
end
end
section
section
variable {w w' U wx wy wz:World} {F:Nat->Prop} {r s:Nat} {S S':DS}
theorem qZ (wH:aa F U wx) (b:bW wx wy) (hd:aB wz (more (more F U wx) wy wz) r s S') (c:aa (more F U wx) wy wz):aB wz (more F U wz) r s S'/\aa F U wz:=by
 obtain⟨h0,d,e⟩:=jw wH.size b.size c.size;refine⟨hd.mono (λj a=>?_) (λj a=>?_),(wH.trans (aa.ah (λ_=>False) b) (λ_ h=>h.elim)).trans c (λj a=>a.imp id (λh=>h.1))⟩
 .rcases a with (a|a)|a
  .exact .inl a
  .exact .inr ⟨a.1,by omega⟩
  .exact .inr ⟨by omega,a.2⟩
 .exact a.elim (λh=>hd.lt j (.inl (.inl h))) (λh=>h.2)
theorem MA (wH:aa F U wx) (hd:aB wy (more F U wx) r s S') (b:aa (more F U wx) wx wy):aB wy (more F U wy) r s S'/\aa F U wy:=by
 have c:=b.size;refine⟨hd.mono (λj a=>a.imp id (λh=>⟨h.1,by omega⟩)) (λj a=>a.elim (λh=>hd.lt j (.inl h)) (λh=>h.2)),wH.trans b (λj a=>a.imp id (λh=>h.1))⟩
def sT (w:World) (F:Nat->Prop) (r s:Nat) (R:Int×DS) (e:Ending) (w':World):Prop:=e= .returned (iV R.1)/\aB w' (more F w w') r s R.2/\aa F w w'
theorem sT.of {R:Int×DS} (a:bW w U) (h:aB w' (more F U w') r s R.2/\aa F U w'):sT w F r s R (.returned (iV R.1)) w':=⟨rfl,tZ a h.1 h.2⟩
theorem sT.same (hd:aB w F r s S) (a:bW w w'):sT w F r s (x,S) (.returned (iV x)) w':=
   ⟨rfl,(hd.later a).mono (λ_ h=> .inl h) (λk c=>c.elim (λb=>(hd.later a).lt k b) (λh=>h.2)),aa.ah _ a⟩
theorem OM {m:Nat} (h:n<=m) (c:(sbring S s a (eK n)).1≠0):sbring S s a (eK m)=sbring S s a (eK n):=by
 obtain⟨R,b⟩:=CN h;rw [b,fi,aE c]
theorem W9 (c:S.fuse≠0) (d:1<=s):lZ S s=(S.take.wr s 0 512 (zs 512)).2.fl s/\(S.take.wr s 0 512 (zs 512)).1=0:=by
 have h0:(S.take.wr s ((0+0:Nat):Int) 512 (zs 512)).1=0:=by rw [oO (S:=S.take) (k:=0+0) c (by omega)]
 have b:sbring S.take s 0 (eK 1)=S.take.wr s ((0+0:Nat):Int) 512 (zs 512):=by
  have:=p8 (S:=S.take) (s:=s) (h0:=0) (a:= []) rfl (0,zs 512);exact this
 refine⟨?_,h0⟩;unfold lZ eu;rw [b,aA (λh=>h h0)];rfl
theorem EA (hd:aB w F r s S) (cZ:S.fC) (a b c:Int) (aT:S.puts.length+6000<=4000000000000):
  Calls prog 24 #[pQ r, .agg #[iV a,iV b,iV c]] w λe w'=>sT w F r s (bT S s a b c) e w':=by
 obtain⟨R,j⟩:=bQ (bT S s a b c);rw [<-j];unfold bT at j;obtain⟨W,E⟩:=bQ (w.alloc (.cells #[.int .i64 a, .int .i64 b, .int .i64 c] 39));have EB:bW w W:=by rw [E];exact(bi w.heap.size w).alloc (bP _) _
 have BP:W.heap[w.heap.size]? =some (.cells #[.int .i64 a, .int .i64 b, .int .i64 c] 39 (0,0)):=by rw [E];exact heap_alloc_new _ _
 have Hv:W.heap.size=w.heap.size+1:=by rw [E,World.size_alloc]
 obtain⟨xZ,km,M,X,CQ,Mp⟩:=kQ hd.ok.lo hd.ok.hi (j3 (hd.later EB)) (yh hd) (yh EB) (yh BP);have Fi:=yh cZ;have rB:=hd.lt;clear hd cZ EB BP;by_cases H:S.fuse=0
 .rw [show (S.fuse == 0)=true by simp [H]] at M;rw [aE H] at j;have d:=yh j;clear j H;go_in;go_wp2_with fail;rw [<-E];clear E;refine bE M λw1 bN=>?_;subst bN;clear M;go_wp2;go_ret;rw [d.o];exact sT.same X.o CQ.o
 .rw [show (S.fuse == 0)=false by simp [H]] at M;rw [aA H] at j;have HF:=yh H;clear H;have x0:W.cell? (aD w.heap.size 0)=some (iV a):=aL Mp.o;have x1:W.cell? (aD w.heap.size 1)=some (iV b):=bD Mp.o;have x2:W.cell? (aD w.heap.size 2)=some (iV c):=bH Mp.o;have pf:=vz a b c W;go_in;go_wp2_with fail;rw [<-E];clear E;refine bE M λw1 bN=>?_;subst bN;clear M;go_wp2_with fail;refine pf.mono ?_;rintro e V ⟨v,x,rfl,hpo,My⟩;have X3:=My.size;clear pf;have aW:=CQ.o.trans (My.mono (by omega));rcases hpo with ⟨J,rfl,rfl⟩|⟨J,rfl,rfl⟩
  .obtain⟨m,t⟩:=bQ (V.alloc (.cells #[.int .i64 b, .int .i64 (3+b), .int .i64 (a-(3+b)), .int .i64 c, .int .i64 (2+c / 4)] 86));have Us:bW w m:=(by rw [t];exact aW.alloc (by omega) _);have y0:m.cell? (aD w.heap.size 0)=some (iV a):=by
    have e1:bW w1 m:=(by rw [t];exact My.alloc X3 _);exact iu e1 (by omega) x0
   have y1:m.cell? (aD w.heap.size 1)=some (iV b):=by
    have e1:bW w1 m:=(by rw [t];exact My.alloc X3 _);exact iu e1 (by omega) x1
   have y2:m.cell? (aD w.heap.size 2)=some (iV c):=by
    have e1:bW w1 m:=(by rw [t];exact My.alloc X3 _);exact iu e1 (by omega) x2
   go_upto_region 4 with fail
   rw [<-t];clear t My aW x0 x1 x2;have nJ:=λk=>mv ((X.o.later Us).later (below_drewN (bi _ _) k));have A:=yh Us;clear Us;by_cases N:a=(s:Int)
   .have EC:(a != (s:Int))=false:=(by rw [N];simp);rw [aE ⟨J,N⟩] at j;go_quiet (first|(go_at_call 11;refine Calls.quiet_of_same (nJ _)));rename_i nq _;have hq:bW m (m.drewN nq):=below_drewN (bi _ _) nq;have l:=yh (A.o.trans (hq.mono A.o.size));have z0:=di (aa.ah (λ_=>False) hq) (λh=>h) y0;have z1:=di (aa.ah (λ_=>False) hq) (λh=>h) y1;have z2:=di (aa.ah (λ_=>False) hq) (λh=>h) y2;clear A nJ hq y0 y1 y2;generalize m.drewN nq=U at*;obtain⟨an,C,cn,hae,rfl,rfl⟩:=Mo J;rw [Int.toNat_natCast,Int.toNat_natCast] at j;have K:=J;rw [N] at z0 K;obtain⟨d,HG⟩:=bL j K;clear j J K N EC hae;go_wp2_with fail;refine(zm (X.o.later l.o)).mono ?_;rintro e w3 ⟨rfl,G,aV⟩;have hze:=qP w3;go_wp2_with fail;refine fk hze λw4 ub fe=>?_;have d3:aB w3 (more F U w3) r s S.take:=G.mono (λ_ h=> .inl h) (λk hk=>hk.elim (λh=>G.lt k h) (λh=>h.2));have htp:S.take.puts.length=S.puts.length:=rfl;obtain⟨xL,VU,I,ma,jB⟩:=ey (it (d3.later fe) 0 (some (aD w3.heap.size 0)) 512 512 (zs 512) (by have:=ub.src;rw [List.length_replicate] at this;exact this) (by omega)) (i9 S.take s 0 512 (zs 512)) (W9 HF.o xZ) (yh aV) (yh fe);clear hze ub fe d3 G aV;go_wp2_with fail;refine fk xL λw5 jy dX=>?_;obtain⟨d5,k5⟩:=qZ ma.o jB.o jy dX;have jL:=fw d5 (by omega);rw [<-I.1] at jL;have X8:=(Fi.o.take.wr s 0 512 (Ga 512)).fl s;have hfp:=lY (S.take.wr s 0 512 (zs 512)).2 s;rw [<-I.1] at X8 hfp;clear xL jy dX I;generalize (S.take.wr s 0 512 (zs 512))=Q1 at*;go_wp2_with fail;refine fk jL λw6 po ji=>?_;obtain⟨d6,k6⟩:=MA k5 po ji;obtain⟨Ww,Mq,Z,HZ2,Ub⟩:=ey (yh (aF d6 k6)) (yh z0) (yh z1) (yh z2) d.o;unfold ly l5 jJ mW at Ub;clear jL po ji d5 k5 d6 k6 z0 z1 z2 d;generalize lZ S s=g at*;have Km:¬F w.heap.size:=λh=>by have:=rB _ h;omega
    have rO:∀{wx:World} {o:Nat} {u:Value},aa F U wx->U.cell? (aD w.heap.size o)=some u->wx.cell? (aD w.heap.size o)=some u:=λhk hc=>di hk Km hc;by_cases O:g.1=0
    .rw [aA (λh=>h O)] at Ub;obtain⟨HP0,Cu⟩:=bL O Ub;clear Ub O;go_wp2;go_loopw [7,8] (λf i wr=>∃n:Nat,n<=s-1/\i=iV (1+(n:Int))/\f=iV (sbring g.2 s 1 (eK n)).1/\aB wr (more F U wr) r s (sbring g.2 s 1 (eK n)).2/\aa F U wr) (λ_ i _=>s-(intOf i).toNat);case atStart=>exact⟨0,dU _,rfl,by rw [HP0.o];rfl,Ww.o.1,Ww.o.2⟩
     case round=>
      obtain⟨n,hn,rfl,rfl,j7,xM⟩:=hrel;have z0r:=rO xM Mq.o;have hsp:=eA g.2 s 1 (eK n);rw [zZ] at hsp;by_cases D:(sbring g.2 s 1 (eK n)).1=0
      .have de:((sbring g.2 s 1 (eK n)).1 == 0)=true:=(by rw [D];rfl);by_cases qn:1+n<s
       .have qn':1+(n:Int)<(s:Int):=(by omega);have fZ:=p8 D (n,zs 512);rw [<-CK,show ((1+n:Nat):Int)=1+(n:Int) by omega] at fZ;obtain⟨sH,CP⟩:=bL j7 xM;clear j7 xM;go_wp2_with fail;refine(qP wr).mono ?_;rintro e w7 ⟨rfl,hr7,vU⟩;have xL:=it (sH.o.later vU) (1+(n:Int)) (some (aD wr.heap.size 0)) 512 512 (zs 512) (by have:=hr7.src;rw [List.length_replicate] at this;exact this) (by omega);rw [<-fZ] at xL;have Fk:=yh vU;clear hr7 vU fZ;go_wp2_with fail;refine fk xL λw8 nU jv=>?_;have y:=yh (qZ CP.o Fk.o nU jv);clear xL nU jv;go_wp2;go_roundw;case rel=>exact⟨n+1,by omega,by first|rfl|go_num|(congr 1;omega),rfl,y.o⟩
        case measure=>simp [intOf];omega
       .have qn':¬1+(n:Int)<(s:Int):=(by omega);obtain rfl:n=s-1:=(by omega);have hsw:eu g.2 s 1 (s-1)=(sbring g.2 s 1 (eK (s-1))).2.fl s:=(by unfold eu;rw [aA (λh=>h D)]);have Gh:=Cu.o;have jL:=fw j7 (by omega);rw [<-hsw] at jL;have akl:=j8 X8 s 1 (s-1);have arB:=lR g.2 s 1 (s-1);have CP:=yh xM;clear hsw j7 xM Cu;generalize eu g.2 s 1 (s-1)=P2 at*;by_cases L:P2.1=0
        .have d2:(P2.1 == 0)=true:=(by rw [L];rfl);rw [aA (λh=>h L)] at Gh;clear L;go_wp2_with fail;refine fk jL λw7 nF gy=>?_;obtain⟨d7,k7⟩:=MA CP.o nF gy;have z17:=rO k7 Z.o;have z:=GZ d7 akl 1 (C:Int) (by omega);have arF:=tY P2.2 s 1 (C:Int) (by have:=HG.o.1.2;omega);have Y:=yh k7;clear jL nF gy d7 k7 z0r;generalize cy P2.2 s 1 (C:Int)=P3 at*;by_cases P:P3.1=0
         .have d3:(P3.1 == 0)=true:=(by rw [P];rfl);rw [aA (λh=>h P)] at Gh;clear P;go_wp2_with fail;refine fk z λw8 nU jv=>?_;obtain⟨d8,k8⟩:=qZ Y.o (bi _ _) nU jv;have z18:=rO k8 Z.o;have z08:=rO k8 Mq.o;have z28:=rO k8 HZ2.o;have aax:=yh (aF d8 k8);clear z nU jv d8 k8 z17;go_wp2_with fail;refine(uu s C cn w8 HG.o).mono ?_;rintro e w9 ⟨v9,rfl,hm9⟩;obtain⟨g9,c9,rfl,hg9,TY,A3⟩:=hm9.out (ki s C cn);have xL:=it (aax.o.1.later A3) 0 (some (aD g9 0)) 512 c9 (gH s C cn) (by have:=TY.src;rwa [ki] at this) (by omega);have arG:=i9 P3.2 s 0 512 (gH s C cn);have T:=yh A3;clear hm9 TY A3;generalize P3.2.wr s 0 512 (gH s C cn)=P4 at*;by_cases Q:P4.1=0
          .have d4:(P4.1 == 0)=true:=(by rw [Q];rfl);rw [aA (λh=>h Q)] at Gh;have d:=yh Gh;clear Q Gh;go_wp2_with fail;refine fk xL λwa p q=>?_;obtain⟨da,ka⟩:=qZ aax.o.2 T.o p q;have aeV:=fw da (by omega);have HKa:=yh ka;clear xL p q da ka;go_wp2_with fail;refine fk aeV λwb hdb oZ=>?_;have y:=yh (MA HKa.o hdb oZ);clear aeV hdb oZ;go_wp2;go_ret;rw [d.o];exact sT.of l.o y.o
          .have d4:(P4.1 == 0)=false:=(by rw [eG];exact Q);rw [aE Q] at Gh;have d:=yh Gh;clear Q Gh;go_wp2_with fail;refine fk xL λwa p q=>?_;have y:=yh (qZ aax.o.2 T.o p q);clear xL p q;go_wp2;go_ret;rw [d.o];exact sT.of l.o y.o
         .have d3:(P3.1 == 0)=false:=(by rw [eG];exact P);rw [aE P] at Gh;have d:=yh Gh;clear P Gh;go_wp2_with fail;refine fk z λw8 nU jv=>?_;have y:=yh (qZ Y.o (bi _ _) nU jv);clear z nU jv;go_wp2;go_ret;rw [d.o];exact sT.of l.o y.o
        .have d2:(P2.1 == 0)=false:=(by rw [eG];exact L);rw [aE L] at Gh;have d:=yh Gh;clear L Gh;go_wp2_with fail;refine fk jL λw7 nF gy=>?_;have y:=yh (MA CP.o nF gy);clear jL nF gy;go_wp2;go_ret;rw [d.o];exact sT.of l.o y.o
      .have de:((sbring g.2 s 1 (eK n)).1 == 0)=false:=(by rw [eG];exact D);have d:Yh (R=sbring g.2 s 1 (eK n)):=yh (by
        have h9:eu g.2 s 1 (s-1)=sbring g.2 s 1 (eK n):=(by unfold eu;rw [(OM hn D),aE D]);rw [Cu.o,h9,aE D])
       have sH:=yh (aF j7 xM);clear j7 xM D;by_cases qn:1+(n:Int)<(s:Int);all_goals
        go_wp2;go_ret;rw [d.o];exact sT.of l.o sH.o
    .rw [aE O] at Ub;have d:=yh Ub;have dq:(g.1 == 0)=false:=(by rw [eG];exact O);have z06:=rO Ww.o.2 Mq.o;clear Ub O;go_wp2;go_loopw [7,8] (λf i wr=>f=iV g.1/\i=iV 1/\wr=w6) (λ_ _ _=>0);case atStart=>exact⟨rfl,rfl,rfl⟩
     case round=>
      obtain⟨rfl,rfl,rfl⟩:=hrel;by_cases L:(1:Int)<(s:Int);all_goals
       go_wp2;go_ret;rw [d.o];exact sT.of l.o Ww.o
   .have EC:(a != (s:Int))=true:=(by rw [fT];exact N);rw [aA (λh=>N h.2)] at j;have d:=yh j;clear j;go_quiet (first|(go_at_call 11;refine Calls.quiet_of_same (nJ _)));clear nJ y0 y1 y2;go_wp2;go_ret;rw [d.o];exact sT.same X.o (A.o.trans ((below_drewN (bi _ _) _).mono A.o.size))
  .obtain⟨m,t⟩:=bQ (V.alloc (.cells #[.int .i64 0, .int .i64 0, .int .i64 0, .int .i64 0, .int .i64 0] 86));have Us:bW w m:=(by rw [t];exact aW.alloc (by omega) _);rw [aA (λh=>J h.1)] at j;obtain⟨d,A⟩:=bL j Us
   go_upto_region 4 with fail
   rw [<-t];clear t My aW x0 x1 x2 j J Us;go_quiet (fail);go_wp2;go_ret;rw [d.o];exact sT.same X.o (A.o.trans ((below_drewN (bi _ _) _).mono A.o.size))
end
end
section
section
variable {S S':DS} {s t i:Nat} {ls:List LG} {L:LG} {G:SG}
theorem V.Inv.idle (h:V.Inv S s ls t) (iZ:∀M∈ls,M.life<S.life) (c:S'.Ok s) (pO:S'.fC) (f:S'.puts.length<=6000) (d:S'.fuse≠0->S'.puts.length<=256) (b:S'.life=S.life):V.Inv S' s ls t:=
   ⟨c,pO,f,d,by rw [b];exact h.l0,by rw [b];exact h.lt,λM a=>by rw [b];exact h.ol M a,h.li,λM a e=>by have:=iZ M a;omega⟩
theorem AV (h:S.Ok s):(S.fl s).2.Ok s/\(S.fl s).2.life=S.life/\((S.fl s).1≠0->(S.fl s).2.fuse=0/\(S.fl s).2.puts.length<=S.puts.length)/\((S.fl s).1=0->(S.fl s).2.puts= []):=
   ⟨qx h,fO _ _,λc=>by obtain⟨a,b,_⟩:=lf c;rw [a];exact⟨b,bP _⟩,jf⟩
theorem qu (h:S.Ok s) (r:a+n<=s):(eu S s a n).2.Ok s/\(eu S s a n).2.life=S.life/\((eu S s a n).1≠0->(eu S s a n).2.fuse=0)/\((eu S s a n).1=0->(eu S s a n).2.puts= []):=by
 obtain⟨o,b,c,e,p⟩:=ev (h0:=a) (ms:=eK n) h (λq d=>by
  unfold eK at d;obtain⟨i,m,rfl⟩:=List.mem_map.1 d;have:=List.mem_range.1 m;exact⟨by show a+i<s;omega,bB 512⟩)
 unfold eu;split
 .rename_i q;exact⟨c,b,e,λh0=>absurd h0 q⟩
 .obtain⟨f,g,j,k⟩:=AV c;exact⟨f,g.trans b,λl=>(j l).1,k⟩
theorem rP (h:S.Ok s) (vJ:0<=S.life) {t:Nat} (bm:S.life<=t) (k:t<=1000000000000000000) (d:S.fuse≠0) (j:S.puts= []) (f n:Int):(cy S s f n).2.Ok s/\(S.life<=(cy S s f n).2.life)/\((cy S s f n).1=0->(cy S s f n).2.puts= []):=by
 unfold cy;split
 .exact⟨h,Int.le_refl _,λ_=>j⟩
 .rename_i e;obtain⟨_,a,b,rfl,rfl,oz,aq,aW⟩:=fM (Decidable.of_not_not e);simp only [Int.toNat_natCast];have zj:=jr vJ bm k;have dh:S.take.Ok s:=⟨h.len,h.lo,h.hi,h.puts,h.fuse⟩;obtain⟨l,c,p,m⟩:=kF (f:=a) (n:=b) dh oz;have mb:=l.trans zj;split
  .rename_i h0;exact⟨c,by omega,λi=>absurd i h0⟩
  .rename_i h0;obtain⟨o,q⟩:=m (Decidable.of_not_not h0);have fy:=(iJ (cK S.take s a b).2 s a 4294967296).trans mb;refine⟨(nM c (by omega) _).1,by omega,λg=>?_⟩;exact(tQ (s:=s) (f:=a) (N:=4294967296) c (by omega) (by omega) (by omega) (by rw [o];omega) g).2
theorem V.Inv.aeW (h:V.Inv S s ls t) (ht:t+2<=1000000000000000000) (a b c:Int):V.Inv (bT S s a b c).2 s ls (t+2):=by
 unfold bT;split
 .exact h.step.step
 .rename_i U;split
  .rename_i W;obtain⟨o8,hs⟩:=W;obtain⟨⟨l1,l2⟩,⟨n1,n2⟩,h3,s1,s2⟩:=o8;have ed:1<=s:=(by omega);have pz:=h.take (by omega:t<=1000000000000000000);have Ag:S.take.life=S.life+1:=jr h.l0 h.lt (by omega);have iZ:∀M∈ls,M.life<S.life+1:=λM y=>by have:=(h.ol M y).2;omega
   have uK:=h.p2 U;obtain⟨q,i,C,D⟩:=qu pz.ok (a:=0) (n:=1) (by omega);have r:=j8 pz.pO s 0 1;have K:=lR S.take s 0 1;have X:S.take.puts.length=S.puts.length:=rfl;unfold ly;have P:lZ S s=eu S.take s 0 1:=rfl;have Q:mW S s=eu (lZ S s).2 s 1 (s-1):=rfl;have I:∀l,jJ S s l=cy (mW S s).2 s 1 (l:Int):=λ_=>rfl;have R:∀l n,l5 S s l n=(jJ S s l).2.wr s 0 512 (gH s l n):=λ_ _=>rfl;rw [<-P] at q i C D r K;generalize lZ S s=A at*;by_cases m:A.1≠0
   .rw [aE m];exact(pz.idle (by rw [Ag];exact iZ) q r (by have:=h.p6;omega) (λc=>absurd (C m) c) i).step
   .rw [aA m];obtain⟨j,u,E,F⟩:=qu q (a:=1) (n:=s-1) (by omega);have v:=j8 r s 1 (s-1);have w:=lR A.2 s 1 (s-1);have km:=h.ok.hi;rw [<-Q] at j u E F v w;generalize mW S s=p at*;by_cases o:p.1≠0
    .rw [aE o];exact(pz.idle (by rw [Ag];exact iZ) j v (by rw [(D (Decidable.not_not.1 m))] at w;simp at w;omega) (λc=>absurd (E o) c) (u.trans i)).step
    .rw [aA o];have d:=F (Decidable.not_not.1 o);have Dm:=pz.idle (by rw [Ag];exact iZ) j v (by rw [d];exact dU _) (λ_=>by rw [d];exact dU _) (u.trans i);by_cases A7:p.2.fuse=0
     .have T:∀l,jJ S s l=(3,p.2):=λl=>by
       rw [I];unfold cy cq;rw [aE A7];simp
      rw [T,aE (by show (3:Int)≠0;decide)];exact Dm.step
     .obtain⟨G,L,H⟩:=rP j Dm.l0 Dm.lt (by omega) A7 d 1 ((b.toNat:Nat):Int);have Ps:=Dm.format (by omega) 1 ((b.toNat:Nat):Int) G;rw [<-I] at G L H Ps;have x:=R b.toNat c.toNat;generalize jJ S s b.toNat=P3 at*;have aeX:∀M∈ls,M.life<P3.2.life:=λM y=>by have:=iZ M y;omega
      by_cases z:P3.1≠0
      .rw [aE z];exact Ps
      .rw [aA z];have aay:=kq P3.2 s 0 512 (gH s b.toNat c.toNat);have VU:=i9 P3.2 s 0 512 (gH s b.toNat c.toNat);have aeY:(gH s b.toNat c.toNat).length=512:=ki _ _ _;have sb:Bytes (gH s b.toNat c.toNat):=(gM _ _ _).append (iF _ _);have f:=Ps.pO.wr s 0 512 sb;have Nz:(P3.2.wr s 0 512 (gH s b.toNat c.toNat)).2.Ok s:=by
        by_cases Pt:P3.2.fuse=0
        .have:P3.2.wr s 0 512 (gH s b.toNat c.toNat)=(3,P3.2):=(by unfold DS.wr;rw [aE Pt]);rw [this];exact Ps.ok
        .exact tP (k:=0) Ps.ok Pt (by omega) aeY
       rw [<-x] at aay VU f Nz;rw [(H (Decidable.not_not.1 z))] at VU;generalize l5 S s b.toNat c.toNat=g at*;have e:V.Inv g.2 s ls (t+2):=Ps.idle aeX Nz f (by simp at VU;omega) (λ_=>by simp at VU;omega) aay;by_cases J:g.1≠0
       .rw [aE J];exact e
       .rw [aA J];obtain⟨N,O,Y,Z⟩:=AV Nz;refine e.idle (by rw [aay];exact aeX) N (f.fl s) ?_ ?_ O
        .have:=lY g.2 s;have:=e.p6;omega
        .intro _;have:=lY g.2 s;simp at VU;omega
  .exact h.step.step
end
end
section
section
variable {S S1 S2:DS} {s t:Nat} {ls:List LG} {L L':LG} {x y:Int}
theorem jH.same {Pv:Nat} {Ba:List (List Int)} (a:jH S f n rs hd) (b:jH S f n Ba Pv):rs=Ba/\hd=Pv:=dC.unique a.t a.x b.t b.x
theorem jP.same (u:jP S s x S1) (v:jP S s y S2):x=y/\S1=S2:=by
 rcases u with ⟨n,p,rfl⟩|⟨u1,r,g⟩<;> rcases v with ⟨o,q,rfl⟩|⟨u2,t,i⟩
 .refine⟨?_,rfl⟩;rcases n with ⟨a,_,rfl⟩|⟨_,_,_,rfl⟩|⟨a,c,_,rfl⟩<;> rcases o with ⟨b,_,rfl⟩|⟨_,_,_,rfl⟩|⟨b,d,_,rfl⟩<;> first|rfl|exact absurd rfl p|exact absurd rfl q|exact absurd a b|exact absurd b a
 .exfalso;rcases n with ⟨a,_,_⟩|⟨_,_,_,rfl⟩|⟨_,c,_,_⟩
  .exact t a
  .exact p rfl
  .exact c u2
 .exfalso;rcases o with ⟨a,_,_⟩|⟨_,_,_,rfl⟩|⟨_,c,_,_⟩
  .exact r a
  .exact q rfl
  .exact c u1
 .rcases g with ⟨l,w,rfl⟩|⟨D,rs,hd,A,g⟩<;> rcases i with ⟨m,z,rfl⟩|⟨E,Ba,Pv,C,i⟩
  .exact⟨l.symm.trans m,rfl⟩
  .exact absurd (l.symm.trans E) w
  .exact absurd (m.symm.trans D) z
  .obtain⟨rfl,rfl⟩:=A.same C;rcases g with ⟨a,c,e⟩|⟨ov,j,g⟩<;> rcases i with ⟨b,d,f⟩|⟨Pj,k,i⟩
   .exact⟨c.trans d.symm,e.trans f.symm⟩
   .rw [a] at k;cases k
   .rw [b] at j;cases j
   .obtain rfl:ov=Pj:=Option.some.inj (j.symm.trans k);rcases g with ⟨a,c,e⟩|⟨a,c,e⟩<;> rcases i with ⟨b,d,f⟩|⟨b,d,f⟩
    .exact⟨a.symm.trans b,e.trans f.symm⟩
    .exact absurd (a.symm.trans b) c
    .exact absurd (b.symm.trans a) d
    .exact⟨c.symm.trans d,e.trans f.symm⟩
theorem sR.same (a:sR S s L) (b:sR S s L'):L=L':=by
 obtain⟨rs,hd,ov,e,c,rfl⟩:=a;obtain⟨Ba,Pv,Pj,f,d,rfl⟩:=b;obtain⟨rfl,rfl⟩:=e.same f;obtain rfl:ov=Pj:=Option.some.inj (c.symm.trans d);rfl
theorem C5 (dh:S.Ok s) (b:L.Ok s) (i:L.begun=false) (g:L.life=S.life) (j:S.num L.f<(L.top+1)*4294967296) (h0:(L.start S s).1≠0):(L.start S s).2.1.fuse=0/\(L.start S s).2.1.life=S.life/\(L.start S s).2.1.Ok s/\(L.start S s).2.1.puts.length<=S.puts.length+1:=by
 obtain⟨l,iQ,k⟩:=jw b.s b.n1 b.top;unfold LG.start at h0⊢;by_cases hd:L.dead S=true
 .rw [aE hd];refine⟨?_,rfl,dh,by show S.puts.length<=_;omega⟩;unfold LG.dead at hd;rw [g] at hd;simpa using hd
 .rw [aA hd,aA (by rw [i];decide)] at h0⊢;have e:(((L.top+1:Nat):Int)*4294967296+((0:Nat):Int))=(((L.top+1)*4294967296:Nat):Int):=by omega
  rw [e] at h0⊢;by_cases a:(cW S s L.f (((L.top+1)*4294967296:Nat):Int)).1≠0
  .rw [aE a];obtain⟨c,d⟩:=pN (by omega) (is (br dh L.f (by omega)) (br dh (L.f+1) (by omega)) (N:=(L.top+1)*4294967296) (by omega) j) a;exact⟨c,iJ _ _ _ _,(nM dh (by omega) _).1,d⟩
  .rw [aA a] at h0;exact absurd rfl h0
theorem Ay:∀{ks:List Nat} {l r:List Int} {cs:CM},rdCons ks l=some (cs,r)->∀q∈cs,q.2.length=512
 | [],l,r,cs,h=>by
  simp only [rdCons,Option.some.injEq,Prod.mk.injEq] at h;obtain⟨rfl,_⟩:=h;intro q a;cases a
 |k :: ks,l,r,cs,h=>by
  rw [iw] at h;split at h
  .cases h
  .rename_i c;cases b:rdCons ks (l.drop 512) with
   |none=>rw [b] at h;cases h
   |some x=>
    rw [b] at h;simp only [Option.map_some,Option.some.injEq,Prod.mk.injEq] at h;obtain⟨rfl,rfl⟩:=h;intro q a;rcases List.mem_cons.1 a with rfl|a
    .show (l.take 512).length=512;rw [List.length_take];omega
    .exact Ay (cs:=x.1) (r:=x.2) b q a
theorem ON (h:rdRec blocks d=some cs):∀q∈cs,q.1<blocks/\q.2.length=512:=λq f=>by
 refine⟨sN h q f,?_⟩;unfold rdRec at h;split at h
 .cases h
 .split at h
  .cases g:rdNums blocks (le (d.take 2)) 0 (d.drop 2) with
   |none=>rw [g] at h;cases h
   |some x=>
    obtain⟨ks,r⟩:=x;rw [g] at h;have c:rdTail (rdCons ks r)=some cs:=h;cases e:rdCons ks r with
    |none=>rw [e] at c;cases c
    |some y=>
     obtain⟨j,i⟩:=y;rw [e] at c;cases i with
     |nil=>
      simp only [rdTail,Option.some.injEq] at c;subst c;exact Ay e q f
     |cons a b=>cases c
  .cases h
theorem vB {blocks:Nat}:∀{rs:List (List Int)} {ms ov:CM},rdAll blocks ms rs=some ov->(∀q∈ms,q.1<blocks/\q.2.length=512)->∀q∈ov,q.1<blocks/\q.2.length=512
 | [],ms,ov,h,hm=>by
  simp only [rdAll,Option.some.injEq] at h;rw [<-h];exact hm
 |r :: rs,ms,ov,h,hm=>by
  rw [sS] at h;cases a:rdRec blocks r with
  |none=>rw [a] at h;cases h
  |some cs=>
   rw [a] at h;exact vB h (λq b=>(tV b).elim (hm q) (ON a q))
theorem In {blocks:Nat}:∀{rs:List (List Int)} {ms ov:CM},rdAll blocks ms rs=some ov->CM.Ok ms->CM.Ok ov
 | [],ms,ov,h,hm=>by
  simp only [rdAll,Option.some.injEq] at h;rw [<-h];exact hm
 |r :: rs,ms,ov,h,hm=>by
  rw [sS] at h;cases a:rdRec blocks r with
  |none=>rw [a] at h;cases h
  |some cs=>
   rw [a] at h;exact In h (CM.qM hm cs)
theorem Tc (dh:S.Ok s) (a:L.Ok s):(L.start S s).2.1.Ok s:=by
 have b:=a.s;have iQ:=a.n1;unfold LG.start;split
 .exact dh
 .split
  .exact dh
  .split <;> exact(nM dh (by omega) _).1
theorem Io {y:LY} (dh:S.Ok s) (c:S.puts= []) (n:∀q∈ov,y.home+q.1<s/\q.2.length=512) (v:ov.length<=2048) (t:3<=y.home) (fB:3<=s):(ee S s y ov rs).2.Ok s/\(ee S s y ov rs).2.life=S.life/\((ee S s y ov rs).1≠0->(ee S s y ov rs).2.fuse=0)/\((ee S s y ov rs).1=0->(ee S s y ov rs).2.puts= [])/\(ee S s y ov rs).2.puts.length<=3000/\∀i,i<3->(ee S s y ov rs).2.now i=S.now i:=by
 obtain⟨u,d,b,g,f⟩:=ev (h0:=y.home) (ms:=ov) dh n;have a:=eA S s y.home ov;rw [c] at a;have arJ:(sbring S s y.home ov).2.puts.length<=2048:=by simp at a;omega
 unfold ee;split
 .exact⟨dh,rfl,λh=>absurd rfl h,λ_=>c,by show S.puts.length<=3000;rw [c];exact dU _,λ_ _=>rfl⟩
 .split
  .rename_i q;exact⟨b,d,g,λh=>absurd h q,by omega,λi p=>f i (λq r e=>by omega)⟩
  .obtain⟨j,k,l,m⟩:=AV b;have:=lY (sbring S s y.home ov).2 s;exact⟨j,k.trans d,λo=>(l o).1,m,by omega,λi p=>(eU b (by omega)).trans (f i (λq r e=>by omega))⟩
theorem V.Inv.fv (h:V.Inv S s ls t) (Y:t+2<=1000000000000000000) (J:jP S s x S1):(x≠0->V.Inv S1 s ls (t+1))/\(x=0->∀L,sR S s L->V.Inv S1 s (ls ++ [L]) (t+1)):=by
 rcases J with ⟨_,O,rfl⟩|⟨qv,X,k⟩
 .exact⟨λ_=>h.step,λh0=>absurd h0 O⟩
 .rcases k with ⟨m,e,rfl⟩|⟨l,rs,hd,Fl,k⟩
  .exact⟨λ_=>h.xz (by omega) _ _ (by rw [m];exact e),λh0=>absurd h0 e⟩
  .have uv:=kh qv;obtain⟨y,D⟩:=bQ (cz (S.now 0));have w:3<=y.home:=(by rw [D];show 3<=3+u32 (S.now 0) 12;omega);unfold sR;rw [<-D] at uv l Fl k⊢;obtain⟨Wr,Ez,Ii,Ij⟩:=lV (f:=1) l;obtain⟨uS,CA,p,u⟩:=Fl.small h.pO (by omega);have xn:=xQ (s:=s) Fl h.pO Ez Ii (by omega) (by omega) (by omega);have b:=jr h.l0 h.lt (by omega:t<=1000000000000000000);have pz:S.take.Ok s:=⟨h.ok.len,h.ok.lo,h.ok.hi,h.ok.puts,h.ok.fuse⟩;have ox:bu S s 1 (y.log:Int)=S.take.fl s:=Ij;have z:(S.take.fl s).1=0:=(by rw [<-ox];exact l);have oY:=jf z;have aaz:=qx (s:=s) pz;have aeZ:=h.pO.take.fl s;have cm:(S.take.fl s).2.life=S.life+1:=(fO _ _).trans b;have iQ:∀i,i<s->(S.take.fl s).2.now i=S.now i:=λi d=>eU (S:=S.take) pz d;have Jv:S.num 1<((eZ S 1 y.log hd).top+1)*4294967296:=Et Ez;have ae0:(eZ S 1 y.log hd).life=S.life+1:=b;have iZ:∀M∈ls,M.life<S.life+1:=λM I=>by have:=(h.ol M I).2;omega
   have uw:=h.opened (by omega:t<=1000000000000000000) 1 (y.log:Int) (by rw [ox];exact aaz) l (hd:=hd) p (by simpa using u);rw [ox] at k uw⊢;have Ac:=h.next aaz aeZ (by rw [oY];exact dU _) (λ_=>by rw [oY];exact dU _) cm;have ae1:V.Inv (S.take.fl s).2 s (ls ++ [eZ S 1 y.log hd]) (t+1):=uw;generalize S.take.fl s=P at*;have ae2:∀M∈ls,M.life<P.2.life:=(by rw [cm];exact iZ);rcases k with ⟨U,rfl,rfl⟩|⟨ov,uF,k⟩
   .exact⟨λ_=>Ac,λh0=>absurd h0 (by decide)⟩
   .have Wx:=vB uF (λq a=>by cases a);have Ed:∀q∈ov,y.home+q.1<s/\q.2.length=512:=λq a=>⟨by have:=(Wx q a).1;omega,(Wx q a).2⟩;have aea:ov.length<=2048:=by
     have:=h.ok.hi;rcases CM.length_le (n:=2048) (In uF rD) (λq a=>by have:=(Ed q a).1;omega) 0 (λ_ _=>dU _) with h1|h1
     .omega
     .rw [h1];simp
    obtain⟨g,j,R,E,Z,F⟩:=Io (rs:=rs) aaz oY Ed aea w (by omega);have Td:=C4 (s:=s) (y:=y) (rs:=rs) aeZ (qt uF (λx v=>by cases v) (λr K=>(CA r K).1));have ae3:∀L,(∃Ba Pv Pj,jH S 1 y.log Ba Pv/\rdAll y.blocks [] Ba=some Pj/\L=((eZ S 1 y.log Pv).start (ee P.2 s y Pj Ba).2 s).2.2)->L=((eZ S 1 y.log hd).start (ee P.2 s y ov rs).2 s).2.2:=λL o=>by
     obtain⟨Ba,Pv,Pj,T,Q,rfl⟩:=o;obtain⟨rfl,rfl⟩:=Fl.same T;obtain rfl:ov=Pj:=Option.some.inj (uF.symm.trans Q);rfl
    generalize ee P.2 s y ov rs=Rd at*;have X9:=Ac.idle ae2 g Td (by omega) (λA7=>by
     by_cases q:Rd.1=0
     .rw [E q];exact dU _
     .exact absurd (R q) A7) j
    have Ya:Rd.2.num (eZ S 1 y.log hd).f<((eZ S 1 y.log hd).top+1)*4294967296:=by
     show Rd.2.num 1<_;rw [vw (S:=S) (S':=Rd.2) ((F 1 (by omega)).trans (iQ 1 (by omega))) ((F 2 (by omega)).trans (iQ 2 (by omega)))];exact Jv
    have ako:(eZ S 1 y.log hd).life=Rd.2.life:=(by rw [ae0,j,cm]);rcases k with ⟨rfl,N,rfl⟩|⟨e,rfl,rfl⟩
    .exact⟨λ_=>X9,λh0=>absurd h0 N⟩
    .have akp:((eZ S 1 y.log hd).start Rd.2 s).2.1.fC:=by
      unfold LG.start;split
      .exact Td
      .split
       .exact Td
       .split <;> exact Td.cW s _ _
     refine⟨λv=>?_,λ_ L o=>?_⟩
     .obtain⟨m,G,H,W⟩:=C5 g xn rfl ako Ya v;exact X9.idle (by rw [j];exact ae2) H akp (by omega) (λc=>absurd m c) G
     .rw [ae3 L o];have d:(ls ++ [eZ S 1 y.log hd])[ls.length]? =some (eZ S 1 y.log hd):=(by simp);have A:=ae1.on d (by rw [ae0,cm]) g Td j (by omega) xn rfl (λ_=>⟨λc=>(by cases c),λ_=>⟨by rw [E e];rfl,Ya⟩⟩);have oT:(ls ++ [eZ S 1 y.log hd]).set ls.length (eZ S 1 y.log hd)=ls ++ [eZ S 1 y.log hd]:=(by simp);rw [oT] at A;have C:=A.start d (Tc g xn);have ae4:(ls ++ [eZ S 1 y.log hd]).set ls.length ((eZ S 1 y.log hd).start Rd.2 s).2.2=ls ++ [((eZ S 1 y.log hd).start Rd.2 s).2.2]:=(by simp);rw [ae4] at C;exact C
end
end
section
section
variable {S S':DS} {s f:Nat} {L:LG} {G:SG}
theorem Ip (S:DS) {s:Nat} (h0:0<=x) (a:x<(s:Int)) (l:List Int):(S.wr s x 512 l).2.refused=S.refused:=by
 unfold DS.wr;split
 .rfl
 .rw [aA (by omega),aA (by decide)];rfl
theorem AW (S:DS) (s:Nat):(S.fl s).2.refused=S.refused:=by
 unfold DS.fl;split <;> rfl
theorem aaA (S:DS) (x:Int):(S.lay x).refused=S.refused:=by
 unfold DS.lay;split <;> rfl
theorem ED (S:DS) {s f:Nat} (b:f+1<s) (num:Int):(cW S s f num).2.refused=S.refused:=by
 have mL:=fL (S.now f) (S.now (f+1)) num [];unfold cW;split
 .rfl
 .split
  .rfl
  .have a:=Ip S (s:=s) (x:=(f:Int)+((aN (S.now f) (S.now (f+1)) num []).1:Int)) (by omega) (by omega) (aN (S.now f) (S.now (f+1)) num []).2.1;split
   .exact a
   .exact(AW _ _).trans a
theorem EE (L:LG) (S:DS) (s:Nat):(L.sync S s).2.refused=S.refused:=by
 unfold LG.sync;split
 .rfl
 .exact AW _ _
theorem Wy (c:L.f+1<s):(L.trim S s).2.1.refused=S.refused:=by
 have a:=EE L S s;have b:=ED (L.sync S s).2 c ((L.ep:Int)*4294967296+(L.head:Int));unfold LG.trim;split
 .exact a
 .split
  .exact a
  .split <;> exact b.trans a
theorem q9 {home:Nat}:∀{ms:CM} {S:DS},(∀q∈ms,home+q.1<s)->(sbring S s home ms).2.refused=S.refused
 | [],_,_=>rfl
 |q :: qs,S,h=>by
  have c:=h q (List.mem_cons_self ..);have a:=Ip S (s:=s) (x:=((home+q.1:Nat):Int)) (by omega) (by omega) q.2;unfold sbring;split
  .exact a
  .exact(q9 (λx b=>h x (List.mem_cons_of_mem _ b))).trans a
theorem Iq (d:∀q∈G.ov,G.y.home+q.1<s) (e:G.L.f+1<s):(G.check S s).2.1.refused=S.refused:=by
 have a:=EE G.L S s;have b:=(q9 (S:=(G.L.sync S s).2) d).trans a;have c:=(Wy (S:=(sbring (G.L.sync S s).2 s G.y.home G.ov).2) e).trans b;unfold SG.check;split
 .exact a
 .split
  .exact b
  .split <;> exact c
theorem sU {g:Nat->DS->Int×DS}:∀k,(∀j,j<k->∀T,(g j T).2.refused=T.refused)->(stepsTo S g k).2.refused=S.refused
 |0,_=>rfl
 |k+1,hg=>by
  have:=sU k (λj a=>hg j (by omega));unfold stepsTo;split
  .exact this
  .exact(hg k (by omega) _).trans this
theorem Wz (a:1<=n) (b:f+2+n<=s):(jM S s f n E P i c l).2.refused=S.refused:=by
 have:=Nat.mod_lt P a;unfold jM;split
 .rfl
 .exact Ip S (by omega) (by omega) _
theorem OO (b:1<=L.n) (c:L.f+2+L.n<=s):(L.append S s d).2.1.refused=S.refused:=by
 have a:(cP L S s d (cY d.length)).2.refused=S.refused:=sU _ (λ_ _ _=>Wz b c);unfold LG.append;split
 .rfl
 .split <;> exact a
theorem WA (L:LG) (S:DS) (s:Nat):(L.trim S s).2.2.f=L.f/\(L.trim S s).2.2.n=L.n:=by
 unfold LG.trim;split
 .exact⟨rfl,rfl⟩
 .split
  .exact⟨rfl,rfl⟩
  .split <;> exact⟨rfl,rfl⟩
theorem Te (G:SG) (S:DS) (s:Nat):(G.check S s).2.2.L.f=G.L.f/\(G.check S s).2.2.L.n=G.L.n:=by
 have h:=WA G.L (sbring (G.L.sync S s).2 s G.y.home G.ov).2 s;unfold SG.check;split
 .exact⟨rfl,rfl⟩
 .split
  .exact⟨rfl,rfl⟩
  .split <;> exact h
theorem OP {c:CM} (e:∀q∈G.ov,G.y.home+q.1<s) (g:1<=G.L.n) (i:G.L.f+2+G.L.n<=s):(G.bF S s c).2.1.refused=S.refused:=by
 have a:(G.made S s (co c).length).2.1.refused=S.refused/\(G.made S s (co c).length).2.2.L.f=G.L.f/\(G.made S s (co c).length).2.2.L.n=G.L.n:=by
  unfold SG.made;split
  .exact⟨rfl,rfl,rfl⟩
  .exact⟨Iq e (by omega),Te G S s⟩
 unfold SG.bF;split
 .rfl
 .split
  .exact a.1
  .have b:=OO (S:=(G.made S s (co c).length).2.1) (s:=s) (L:=(G.made S s (co c).length).2.2.L) (d:=co c) (by rw [a.2.2];exact g) (by rw [a.2.1,a.2.2];exact i);split <;> exact b.trans a.1
theorem K3 {T:TG} (a:∀q∈G.ov,G.y.home+q.1<s) (b:1<=G.L.n) (c:G.L.f+2+G.L.n<=s):(T.bF G S s).2.1.refused=S.refused:=by
 unfold TG.bF;split
 .rfl
 .split
  .rfl
  .split <;> exact OP a b c
theorem Tf (c:f+2+n<=s):(cK S s f n).2.refused=S.refused:=by
 have a:(bA S s f (n+2)).2.refused=S.refused:=sU _ (λj b T=>Ip T (by omega) (by omega) _);unfold cK;split
 .exact a
 .exact(AW _ _).trans a
theorem K4 (S:DS) (s:Nat) (f n:Int):(cy S s f n).2.refused=S.refused:=by
 unfold cy;split
 .rfl
 .rename_i d;obtain⟨_,a,b,rfl,rfl,oz,aq,aW⟩:=fM (Decidable.of_not_not d);simp only [Int.toNat_natCast];have c:(cK S.take s a b).2.refused=S.refused:=Tf oz;split
  .exact c
  .exact(ED _ (by omega) _).trans c
theorem Ir (e:a+n<=s):(eu S s a n).2.refused=S.refused:=by
 have b:=q9 (S:=S) (s:=s) (home:=a) (ms:=eK n) (λq c=>by
  unfold eK at c;obtain⟨i,d,rfl⟩:=List.mem_map.1 c;have:=List.mem_range.1 d;show a+i<s;omega)
 unfold eu;split
 .exact b
 .exact(AW _ _).trans b
theorem K5 (S:DS) (s:Nat) (a b c:Int):(bT S s a b c).2.refused=S.refused:=by
 unfold bT;split
 .rfl
 .split
  .rename_i i;obtain⟨o8,k⟩:=i;obtain⟨⟨l,m⟩,⟨o,p⟩,j,s1,s2⟩:=o8;have d:(lZ S s).2.refused=S.refused:=Ir (S:=S.take) (by omega);have e:(mW S s).2.refused=S.refused:=(Ir (S:=(lZ S s).2) (s:=s) (a:=1) (n:=s-1) (by omega)).trans d;have f:(jJ S s b.toNat).2.refused=S.refused:=(K4 (mW S s).2 s 1 (b.toNat:Int)).trans e;have g:(l5 S s b.toNat c.toNat).2.refused=S.refused:=(Ip (jJ S s b.toNat).2 (s:=s) (x:=0) (by omega) (by omega) (gH s b.toNat c.toNat)).trans f;unfold ly;split
   .exact d
   .split
    .exact e
    .split
     .exact f
     .split
      .exact g
      .exact(AW _ _).trans g
  .rfl
theorem Tg (a:L.f+1<s):(L.start S s).2.1.refused=S.refused:=by
 unfold LG.start;split
 .rfl
 .split
  .rfl
  .split <;> exact ED _ a _
theorem Th (S:DS) (s:Nat) (f n:Int):(bu S s f n).2.refused=S.refused:=by
 unfold bu;split
 .rfl
 .split
  .rfl
  .split
   .rfl
   .exact AW _ _
theorem Ti (b:∀q∈ov,y.home+q.1<s):(ee S s y ov rs).2.refused=S.refused:=by
 have a:=q9 (S:=S) b;unfold ee;split
 .rfl
 .split
  .exact a
  .exact(AW _ _).trans a
theorem jP.rf (h:jP S s x S'):S'.refused=S.refused:=by
 rcases h with ⟨_,_,rfl⟩|⟨qv,d,k⟩
 .rfl
 .have uv:=kh qv;have a:=Th S s 1 (((cz (S.now 0)).log:Nat):Int);rcases k with ⟨_,_,rfl⟩|⟨e,rs,hd,Fl,k⟩
  .exact a
  .rcases k with ⟨_,_,rfl⟩|⟨ov,uF,k⟩
   .exact a
   .have Wx:=vB uF (λq b=>by cases b);have c:=(Ti (S:=(bu S s 1 (((cz (S.now 0)).log:Nat):Int)).2) (s:=s) (y:=cz (S.now 0)) (ov:=ov) (rs:=rs) (λq b=>by have:=(Wx q b).1;omega)).trans a;rcases k with ⟨_,_,rfl⟩|⟨_,_,rfl⟩
    .exact c
    .exact(Tg (by show 1+1<s;omega)).trans c
end
end
end Go.Proofs.YtenlkgicpllbhaaGreat
