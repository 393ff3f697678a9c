import Derived.Test.YtcpdggdfihjhoabGreatW01
import Derived.Test.YtcpdggdfihjhoabGreatW03
import Derived.Test.YtcpdggdfihjhoabGreatW05
import Derived.Test.YtcpdggdfihjhoabGreatW06
import Derived.Test.YtcpdggdfihjhoabGreatW07
set_option maxRecDepth 20000
set_option maxHeartbeats 8000000
set_option linter.all false
namespace Go.Proofs.YtcpdggdfihjhoabGreat
open Go.Proofs.Tryz
open Go.RowKit Go.Maps
variable {ms:CM} {S':DS} {us:List (Nat×List Int)} {d l:List Int} {c cz g g2 gp h0 i k n p:Nat} {v:Value} {w w' w0 w1 w2 w3:World}
def vD.lQ {B:Nat} (h:vD w B p l) (a:bW w w'):vD w' B p l:=by
 obtain⟨c,f,v,b,aA,e⟩:=h;exact⟨c,j3 f a.size,v,(a.block p ((lR.1 b).1)).trans b,aA.kept (row:=none) ⟨a.os,a.tape,a.output,a.size,λk d _=>a.block k d⟩ (by cases g:v.ownBlock <;> simp),e⟩
def vD.new (w:World):vD (w.alloc (.cells #[.slice none 0 0] 137)) w.heap.size w.heap.size []:=
   ⟨bS _,by simp,_,heap_alloc_new w _,World.ownsRow_nil _ _ _ _,by simp [Value.ownBlock]⟩
def vD.row {B:Nat} (h:vD w B p l) (h0:0<l.length):∃g c,w.cell? (aD p 0)=some (.slice (some (aD g 0)) l.length c)/\B<=g/\ay w 5 g c (bs l):=by
 obtain⟨f,j,v,b,aA,i⟩:=h;obtain⟨g,c,e,a,d,_⟩:=ay.fe aA (by rintro rfl;rcases aA.2 with ⟨_,h⟩|⟨_,_,_,h,_⟩;omega;cases h);subst e;exact⟨g,c,aj b rfl,a,d⟩
def eV (l:List Int):List Int:=l ++ bB 4 (sumOf l)
def oI (l:List Int):(eV l).length=l.length+4:=by simp [eV,aK]
def GP (p B:Nat) (l:List Int) (w:World) (h:vD w B p l) (h0:0<l.length) (m:l.length+4<=100000) (d:Bytes l):
  Calls prog 96 #[pQ p] w λe w'=>∃g c,e= .returned (.slice (some (aD g 0)) (l.length+4) c)/\B<=g/\ay w' 5 g c (bs (eV l))/\Below B w w':=by
 obtain⟨g,c,db,q,n⟩:=h.row h0;have o:=h.2.1;have FT:=xR (some (aD g 0)) l.length c l w d (by omega) n.src;have r:=np d;have k:=(show eV l=l ++ bB 4 (sumOf l) from rfl);generalize sumOf l=S at*;go_in;go_wp2_with fail;refine bM FT λw1 ar=>?_;have fB:Calls prog 94 #[pQ p,iV (S:Int),iV 4] w1 λe w'=>e= .returned (.tuple #[])/\vD w' B p (l ++ bB 4 S)/\Below B w1 w':=mG p B l S 4 w1 (h.lQ ar) m (by omega);have cQ:=ar.mono o;go_wp2_with fail;refine fR fB λf uW bd=>?_;obtain⟨a,b,aaa,fZ,fy⟩:=uW.row (by simp [aK]);have j:(l ++ bB 4 S).length=l.length+4:=by simp [aK]
 rw [j] at aaa;have i:(B<=a/\ay f 5 a b (bs (eV l))/\Below B w f):=⟨fZ,by rw [k];exact fy,cQ.trans bd⟩;go_wp2;go_ret;exact⟨a,b,rfl,i⟩
def X7:ByteArray:=⟨#[118,101,108,108,117,109,0,1]⟩
def gy:List Int:= [118,101,108,108,117,109,0,1]
def Sa:PB X7=gy:=by decide+kernel
def bP (s l n:Nat):List Int:=gy ++ bB 4 s ++ bB 4 l ++ bB 4 n ++ List.replicate 488 0
def dG (s l n:Nat):(bP s l n).length=508:=by simp only [bP,gy,ed,aK,List.length_replicate,List.length_cons,List.length_nil]
def ia (s l n:Nat):Bytes (bP s l n):=by
 intro x a;simp only [bP,List.mem_append] at a;rcases a with (((h|h)|h)|h)|h
 .simp [gy] at h;omega
 .exact oH _ _ x h
 .exact oH _ _ x h
 .exact oH _ _ x h
 .have:=List.eq_of_mem_replicate h;omega
def Made (w w':World) (v:Value) (l:List Int):Prop:=∃g c,v= .slice (some (aD g 0)) l.length c/\w.heap.size<=g/\ay w' 5 g c (bs l)/\bW w w'
def GQ (s l n:Nat) (w:World) (j:vE s l n):
  Calls prog 35 #[.agg #[iV (s:Int),iV (l:Int),iV (n:Int)]] w λe w'=>∃v,e= .returned (.tuple #[v,iV 0])/\Made w w' v (eV (bP s l n)):=by
 obtain⟨⟨r,t⟩,⟨u,x⟩,p,s1,s2⟩:=j;go_in;go_wp2_with fail;refine((λw=>rb s l n w r t u x p s1 s2) _).mono ?_;rintro e w1 ⟨rfl,ar⟩;have bN:=((bi _ w).alloc (bS _) _).trans (ar.mono (by simp));have k:w1.heap[w.heap.size]? =some (.cells #[.int .i64 (s:Int), .int .i64 (l:Int), .int .i64 (n:Int)] 40 (0,0)):=(ar.block _ (by simp)).trans (heap_alloc_new _ _);have A7:=(lR.1 k).1;have zH:=λo=>by have:=vD.new (w1.alloc o);simpa using this
 have a:∀o,bW w ((w1.alloc o).alloc (.cells #[.slice none 0 0] 137))/\((w1.alloc o).alloc (.cells #[.slice none 0 0] 137)).heap[w.heap.size]? =some (.cells #[.int .i64 (s:Int), .int .i64 (l:Int), .int .i64 (n:Int)] 40 (0,0)):=λo=>
    ⟨(bN.alloc (by omega) _).alloc (by simp;omega) _,(Below.heap_alloc _ _ _ (by simp;omega)).trans ((Below.heap_alloc _ _ _ A7).trans k)⟩
 have bq:w.heap.size<w1.heap.size+1:=by omega
 go_wp2_with fail;refine((λo=>Oe (w1.heap.size+1) (w1.heap.size+1) [] X7 _ (zH o) (by decide) (by decide)) _).mono ?_;rintro e d ⟨rfl,uW,bd⟩;obtain⟨eR,qL⟩:bW w d/\d.heap[w.heap.size]? =some (.cells #[.int .i64 (s:Int), .int .i64 (l:Int), .int .i64 (n:Int)] 40 (0,0)):=⟨(a _).1.trans (bd.mono (by omega)),(bd.block _ bq).trans (a _).2⟩;rw [Sa,List.nil_append] at uW;have A:=aM qL;have mO:Calls prog 94 #[.pointer (some ⟨w1.heap.size+1,0,none⟩),iV (s:Int),iV 4] d λe w'=>e= .returned (.tuple #[])/\vD w' (w1.heap.size+1) (w1.heap.size+1) (gy ++ bB 4 s)/\Below (w1.heap.size+1) d w':=mG _ _ _ s 4 d uW (by decide) (by omega);go_wp2_with fail;refine fR mO λf ai1 bF=>?_;obtain⟨jT,N9⟩:bW w f/\f.heap[w.heap.size]? =some (.cells #[.int .i64 (s:Int), .int .i64 (l:Int), .int .i64 (n:Int)] 40 (0,0)):=⟨eR.trans (bF.mono (by omega)),(bF.block _ bq).trans qL⟩;have C:=bG N9;have xU:Calls prog 94 #[.pointer (some ⟨w1.heap.size+1,0,none⟩),iV (l:Int),iV 4] f λe w'=>e= .returned (.tuple #[])/\vD w' (w1.heap.size+1) (w1.heap.size+1) (gy ++ bB 4 s ++ bB 4 l)/\Below (w1.heap.size+1) f w':=mG _ _ _ l 4 f ai1 (by rw [ed,aK];decide) (by omega);go_wp2_with fail;refine fR xU λi D3 fw=>?_;obtain⟨rB,Oj⟩:bW w i/\i.heap[w.heap.size]? =some (.cells #[.int .i64 (s:Int), .int .i64 (l:Int), .int .i64 (n:Int)] 40 (0,0)):=⟨jT.trans (fw.mono (by omega)),(fw.block _ bq).trans N9⟩;have D:=bK Oj;have Wf:Calls prog 94 #[.pointer (some ⟨w1.heap.size+1,0,none⟩),iV (n:Int),iV 4] i λe w'=>e= .returned (.tuple #[])/\vD w' (w1.heap.size+1) (w1.heap.size+1) (gy ++ bB 4 s ++ bB 4 l ++ bB 4 n)/\Below (w1.heap.size+1) i w':=mG _ _ _ n 4 i D3 (by rw [ed,ed,aK,aK];decide) (by omega);go_wp2_with fail;refine fR Wf λw5 Wk fa=>?_;have b:(gy ++ bB 4 s ++ bB 4 l ++ bB 4 n).length=20:=by rw [ed,ed,ed,aK,aK,aK];rfl
 have Uo:Calls prog 95 #[.pointer (some ⟨w1.heap.size+1,0,none⟩),iV 508] w5 λe w'=>e= .returned (.tuple #[])/\vD w' (w1.heap.size+1) (w1.heap.size+1) (bP s l n)/\Below (w1.heap.size+1) w5 w':=by
  have:=KC _ _ _ 488 w5 Wk (by rw [b];decide) (by rw [b];decide);rw [b] at this;exact this
 go_wp2_with fail;refine fR Uo λy ai3 nE=>?_;have UH:=GP _ _ _ y ai3 (by rw [dG];decide) (by rw [dG];decide) (ia s l n);rw [dG] at UH;go_wp2_with fail;refine UH.mono ?_;rintro e z ⟨g,c,rfl,j,q,xx⟩;have m:(Made w z (.slice (some (aD g 0)) 512 c) (eV (bP s l n))):=⟨g,c,by rw [oI,dG],by omega,q,((rB.trans (fa.mono (by omega))).trans (nE.mono (by omega))).trans (xx.mono (by omega))⟩;go_wp2;go_ret2;exact⟨_,rfl,m⟩
def Em (s l n:Int) (w:World) (b:¬vE s l n):
  Calls prog 35 #[.agg #[iV s,iV l,iV n]] w λe w'=>e= .returned (.tuple #[.slice none 0 0,iV 22])/\bW w w':=by
 have c:∀w,Calls prog 92 #[.agg #[iV s,iV l,iV n]] w λe w'=>e= .returned (.tuple #[.agg #[iV 0,iV 0,iV 0,iV 0,iV 0],iV 22])/\bW w w':=λw=>by
  refine(GO s l n w).mono ?_;rintro e w' ⟨v,x,rfl,⟨h,_⟩|⟨_,rfl,rfl⟩,a⟩
  .exact absurd h b
  .exact⟨rfl,a⟩
 go_in;go_wp2_with fail;refine(c _).mono ?_;rintro e w1 ⟨rfl,ar⟩;have bN:=((bi _ w).alloc (bS _) _).trans (ar.mono (by simp));go_wp2;go_ret2;exact⟨rfl,(λo=>bN.alloc bN.size o) _⟩
section
abbrev gV (s l n:Nat):List Int:=eV (bP s l n)
def ma (S:DS) (s:Nat):Int×DS:=eB S.take s 0 1
def nc (S:DS) (s:Nat):Int×DS:=eB (ma S s).2 s 1 (s-1)
def jS (S:DS) (s l:Nat):Int×DS:=cD (nc S s).2 s 1 (l:Int)
def mb (S:DS) (s l n:Nat):Int×DS:=(jS S s l).2.wr s 0 512 (gV s l n)
def lI (S:DS) (s l n:Nat):Int×DS:=
 if (ma S s).1≠0 then ma S s else if (nc S s).1≠0 then nc S s else if (jS S s l).1≠0 then jS S s l else if (mb S s l n).1≠0 then mb S s l n else (mb S s l n).2.fl s
def Sb (a b c:Int):Decidable (vE a b c):=by unfold vE;exact inferInstance
def bY (S:DS) (s:Nat) (a b c:Int):Int×DS:=
 if S.fuse=0 then (3,S) else haveI:=Sb a b c;if vE a b c/\a=(s:Int) then lI S s b.toNat c.toNat else (22,S)
section
variable {w:World} {F:Nat->Prop} {p s cR:Nat} {S:DS}
def Mz {a b c:Int} (h:vE a b c):∃x y z:Nat,a=(x:Int)/\b=(y:Int)/\c=(z:Int):=by
 obtain⟨⟨e,f⟩,⟨g,i⟩,d,s1,s2⟩:=h;exact⟨a.toNat,b.toNat,c.toNat,by omega,by omega,by omega⟩
def ku {S:DS} (h:S.fL) (s a n:Nat):(eB S s a n).2.fL:=by
 have b:=kr h s a (ms:=fb n) (λx c=>by
  unfold fb at c;obtain⟨i,_,rfl⟩:=List.mem_map.1 c;intro v d;rw [zs,List.mem_replicate] at d;omega)
 unfold eB;split
 .exact b
 .exact b.fl s
def En (b:∀k,F k->k<w0.heap.size) (xM:aa F w0 w1) (hd:B.ax w2 (more (more F w0 w1) w1 w2) p s S' c) (a:aa (more F w0 w1) w1 w2):B.ax w2 (more F w0 w2) p s S' c/\aa F w0 w2:=
   ⟨hd.mono (vi xM.size a.size) (cJ b (j3 xM.size a.size)),xM.trans a (λd h=>h.elim .inl (λh=> .inr h.1))⟩
def Wl (b:∀k,F k->k<w0.heap.size) (xM:aa F w0 w1) (hd:B.ax w2 (more F w0 w1) p s S' c) (a:aa (more F w0 w1) w1 w2):B.ax w2 (more F w0 w2) p s S' c/\aa F w0 w2:=by
 have d:=a.size;exact⟨hd.mono (λk h=>h.elim .inl (λh=> .inr ⟨h.1,by omega⟩)) (cJ b (j3 xM.size a.size)),xM.trans a (λk h=>h.elim .inl (λh=> .inr h.1))⟩
def ug {c':Nat} (b:∀k,F k->k<w.heap.size) (xM:aa F w w0) (h:B.ax w1 (more F w0 w1) p s S' c/\aa F w0 w1) (a:c<=c'):B.ax w1 (more F w w1) p s S' c'/\aa F w w1:=by
 have d:=xM.size;have e:=h.2.size;exact⟨(h.1.mono (λk h=>h.elim .inl (λh=> .inr ⟨by omega,h.2⟩)) (cJ b (by omega))).le a,xM.trans h.2 (λk h=> .inl h)⟩
def uh (S:DS) (s:Nat) (f n:Int) (d:n<=256):(cD S s f n).2.puts.length<=S.puts.length+400:=by
 have a:=sv S.take s f.toNat n.toNat;have b:S.take.puts.length=S.puts.length:=rfl;have c:=zW (cN S.take s f.toNat n.toNat).2 s f.toNat 4294967296;unfold cD;split
 .show S.puts.length<=_;omega
 .split
  .omega
  .omega
def wK (h:B.ax w F p s S cR) (dD:S.fL) (a b c:Int) (aU:S.puts.length+6000<=4000000000000):
  Calls prog 12 #[pQ p, .agg #[iV a,iV b,iV c]] w λe w'=>e= .returned (iV (bY S s a b c).1)/\B.ax w' (more F w w') p s (bY S s a b c).2 (cR+2)/\aa F w w':=by
 obtain⟨wB,Wb⟩:=bQ (w.alloc (.cells #[.int .i64 a, .int .i64 b, .int .i64 c] 40));have Mu:bW w wB:=by rw [Wb];exact aJ _ _
 have hzB:wB.heap.size=w.heap.size+1:=by rw [Wb,World.size_alloc]
 have dH:wB.heap[w.heap.size]? =some (.cells #[.int .i64 a, .int .i64 b, .int .i64 c] 40 (0,0)):=by rw [Wb];exact heap_alloc_new _ _
 have iN:=h.later Mu;have h1:=B.zf iN;have iK:=h.lt;obtain⟨R,d⟩:=bQ (bY S s a b c);rw [<-d];unfold bY at d;subst Wb;go_in;go_wp2_with fail;refine bM h1 λw1 bO=>?_;subst bO;by_cases J:S.fuse=0
 .rw [aG J] at d;have d1:(S.fuse == 0)=true:=by rw [beq_iff_eq];exact J
  rw [d1] at h1;go_wp2;go_ret;rw [d];exact⟨rfl,(iN.more (w:=w)).le (by omega),aa.ah F Mu⟩
 .rw [aB J] at d;have d1:(S.fuse == 0)=false:=by rw [fJ];exact J
  rw [d1] at h1;by_cases C:vE a b c
  .obtain⟨x,y,z,rfl,rfl,rfl⟩:=Mz C;have I:=(λw=>GQ x y z w C);have mR:(gV x y z).length=512:=(by rw [gV,oI,dG]);obtain⟨c0,c1,c2,hgx,Ml⟩:=eK (aM dH) (bG dH) (bK dH) C.2.2.2.2 iN.ok.hi;by_cases ks:x=s
   .have ks':=ks.symm;subst ks';rw [aG ⟨C,rfl⟩] at d;simp only [Int.toNat_natCast] at d;have G:=I (w.alloc (.cells #[.int .i64 (s:Int), .int .i64 (y:Int), .int .i64 (z:Int)] 40));go_wp2_with fail;refine G.mono ?_;rintro e l ⟨v,rfl,g,cg,rfl,hg,be,bd⟩;have eu:=bd.size;have E:=aM ((bd.block _ (by omega)).trans dH);have Vw:=((bd.block _ (by omega)).trans dH);have sq:=(iN.later bd);have aab:=(λ(wx:World) (hb:bW l wx)=>B.pS (sq.later hb));have m:(B.ax l.drew (more F w l.drew) p s S (cR+2)/\aa F w l.drew):=⟨((iN.later (ai bd)).more (w:=w)).le (by omega),(aa.ah F Mu).trans (aa.ah (λ_=>False) (ai bd)) (λ_ h=>h.elim)⟩;go_wp2;go_region_held3 (λw'=>w'.cell? (aD w.heap.size 0)=some (iV (s:Int))) (exact E)
     (first
      |(go_at_call 36;refine(aab _ (ai (bi _ _))).mono ?_;rintro e wy ⟨rfl,Ms⟩;have Ec:=Ms.symm;subst Ec;clear Ms))
    have hWz:=(ai (bi l.heap.size l)).size;have K:=sq.later (ai (bi _ _));have MA:=(((ai (bi l.heap.size l)).block _ (by omega)).trans Vw);have aac:=be.src;rw [mR] at aac;have UW:g<l.heap.size:=aac.old _ rfl (by omega);have M:=(aac.later (ai (bi l.heap.size l)));generalize l.drew=W at*;have h3:=B.zI K;have X8:=C.1.2;have eh:(17:Int)<=(s:Int):=(by obtain⟨⟨l1,l2⟩,⟨n1,n2⟩,h3,s1,s2⟩:=C;omega);have o9:(ma S s).2.puts.length<=S.puts.length+1:=l5 S.take s 0 1;have uV:(nc S s).2.puts.length<=(ma S s).2.puts.length+(s-1):=l5 (ma S s).2 s 1 (s-1);have P5:(jS S s y).2.puts.length<=(nc S s).2.puts.length+400:=uh _ _ _ _ X8;have Rc:(mb S s y z).2.puts.length<=(jS S s y).2.puts.length+1:=jh _ _ _ _ _;have dP:((nc S s).2.fL):=ku (ku dD.take s 0 1) s 1 (s-1);have N:=(λ(f:World) (hd:B.ax f F p s S.take cR)=>show Calls prog 38 #[pQ p,iV 0,iV 1] f λe w'=>e= .returned (iV (ma S s).1)/\B.ax w' (more F f w') p s (ma S s).2 cR/\aa F f w' from CU hd 0 1 (by omega) (by omega) (by show S.puts.length+_+1<=_;omega));have O:=(λ(f:World) (n:Nat->Prop) (hd:B.ax f n p s (ma S s).2 cR)=>show Calls prog 38 #[pQ p,iV 1,iV (s:Int)] f λe w'=>e= .returned (iV (nc S s).1)/\B.ax w' (more n f w') p s (nc S s).2 cR/\aa n f w' from CU hd 1 s (by omega) (by omega) (by omega));have P:=(λ(f:World) (n:Nat->Prop) (hd:B.ax f n p s (nc S s).2 cR)=>show Calls prog 39 #[pQ p,iV 1,iV (y:Int)] f λe w'=>e= .returned (iV (jS S s y).1)/\B.ax w' (more n f w') p s (jS S s y).2 (cR+2)/\aa n f w' from B.KA hd dP 1 (y:Int) (by omega));have Q:=(λ(f:World) (n:Nat->Prop) (hd:B.ax f n p s (jS S s y).2 (cR+2)) (hs:Src f (some (aD g 0)) 512 (gV s y z))=>show Calls prog 40 #[pQ p,iV 0, .slice (some (aD g 0)) 512 cg] f λe w'=>e= .returned (iV (mb S s y z).1)/\B.ax w' (more n f w') p s (mb S s y z).2 (cR+2)/\aa n f w' from B.Eb hd 0 (some (aD g 0)) 512 cg (gV s y z) hs (by omega));have T:=(λ(f:World) (n:Nat->Prop) (hd:B.ax f n p s (mb S s y z).2 (cR+2))=>B.vu hd (by omega));unfold lI at d;generalize ma S s=U at*;generalize nc S s=X at*;generalize jS S s y=Y at*;generalize mb S s y z=Z at*;go_wp2_with fail;refine fR h3 λf hd3 aZ=>?_;have ly:=aZ.size;have h4:=N f hd3;have H:∀j,w.heap.size<=j->¬F j:=λj hj hf=>by have:=iK _ hf;omega
    have Wm:(∀k,F k->k<f.heap.size):=λk hf=>by have:=iK k hf;omega
    have lO:=m.2.trans aZ (λ_ h=> .inl h);have Vy:=((aZ.block _ (by omega) (H _ (by omega))).trans MA);have L:=(M.oX aZ (λy hy _ e=>by
     cases hy;exact H g (by omega) e))
    go_wp2_with fail;refine fR h4 λw4 hd q=>?_;have Ja:=(aH hd q);by_cases r:U.1≠0
    .rw [aG r] at d;have dY:(U.1 != 0)=true:=(by rw [gA];exact r);have m:=(ug (c':=cR+2) iK lO Ja (by omega));go_wp2;go_ret;rw [d];exact⟨rfl,m⟩
    .rw [aB r] at d;have dY1:(U.1 != 0)=false:=(by rw [Decidable.byContradiction r];rfl);have cS:=aj ((Ja.2.block _ (by omega) (H _ (by omega))).trans Vy) (j:=0) rfl;have h5:=O _ _ Ja.1;go_wp2_with fail;refine fR h5 λw5 hd q=>?_;have Pz:=(En Wm Ja.2 hd q);by_cases t:X.1≠0
     .rw [aG t] at d;have dY:(X.1 != 0)=true:=(by rw [gA];exact t);have m:=(ug (c':=cR+2) iK lO Pz (by omega));go_wp2;go_ret;rw [d];exact⟨rfl,m⟩
     .rw [aB t] at d;have dY2:(X.1 != 0)=false:=(by rw [Decidable.byContradiction t];rfl);have cL:=aj ((Pz.2.block _ (by omega) (H _ (by omega))).trans Vy) (j:=1) rfl;have h6:=P _ _ Pz.1;go_wp2_with fail;refine fR h6 λw6 hd q=>?_;have o:=(En Wm Pz.2 hd q);by_cases u:Y.1≠0
      .rw [aG u] at d;have dY:(Y.1 != 0)=true:=(by rw [gA];exact u);have m:=(ug (c':=cR+2) iK lO o (by omega));go_wp2;go_ret;rw [d];exact⟨rfl,m⟩
      .rw [aB u] at d;have dY3:(Y.1 != 0)=false:=(by rw [Decidable.byContradiction u];rfl);have h7:=Q _ _ o.1 (L.oX o.2 (λy hy _ e=>by
        cases hy;exact H g (by omega) e))
       go_wp2_with fail;refine fR h7 λw7 hd q=>?_;have D:=(En Wm o.2 hd q);by_cases A:Z.1≠0
       .rw [aG A] at d;have dY:(Z.1 != 0)=true:=(by rw [gA];exact A);have m:=(ug (c':=cR+2) iK lO D (by omega));go_wp2;go_ret;rw [d];exact⟨rfl,m⟩
       .rw [aB A] at d;have dY4:(Z.1 != 0)=false:=(by rw [Decidable.byContradiction A];rfl);have h8:=T _ _ D.1;go_wp2_with fail;refine fR h8 λw8 hd q=>?_;have m:=(ug (c':=cR+2) iK lO (Wl Wm D.2 hd q) (by omega));go_wp2;go_ret;rw [d];exact⟨rfl,m⟩
   .rw [aB (λh=>ks (by have:=h.2;omega))] at d;have dM:((x:Int) != (s:Int))=true:=(by rw [gA];omega);have G:=I (w.alloc (.cells #[.int .i64 (x:Int), .int .i64 (y:Int), .int .i64 (z:Int)] 40));go_wp2_with fail;refine G.mono ?_;rintro e l ⟨v,rfl,g,cg,rfl,hg,be,bd⟩;have eu:=bd.size;have E:=aM ((bd.block _ (by omega)).trans dH);have Vw:=((bd.block _ (by omega)).trans dH);have sq:=(iN.later bd);have aab:=(λ(wx:World) (hb:bW l wx)=>B.pS (sq.later hb));have m:(B.ax l.drew (more F w l.drew) p s S (cR+2)/\aa F w l.drew):=⟨((iN.later (ai bd)).more (w:=w)).le (by omega),(aa.ah F Mu).trans (aa.ah (λ_=>False) (ai bd)) (λ_ h=>h.elim)⟩;go_wp2;go_region_held3 (λw'=>w'.cell? (aD w.heap.size 0)=some (iV (x:Int))) (exact E)
     (first
      |(go_at_call 36;refine(aab _ (ai (bi _ _))).mono ?_;rintro e wy ⟨rfl,Ms⟩;have Ec:=Ms.symm;subst Ec;clear Ms))
    go_wp2;go_ret;rw [d];exact⟨rfl,m⟩
  .have G:=λw=>Em a b c w C;rw [aB (λh=>C h.1)] at d;obtain⟨I,c0,c1,c2⟩:=cO G (aM dH) (bG dH) (bK dH);have G:=I (w.alloc (.cells #[.int .i64 a, .int .i64 b, .int .i64 c] 40));go_wp2_with fail;refine bM G λl bd=>?_;have m:(B.ax l.drew (more F w l.drew) p s S (cR+2)/\aa F w l.drew):=⟨((iN.later (ai bd)).more (w:=w)).le (by omega),(aa.ah F Mu).trans (aa.ah (λ_=>False) (ai bd)) (λ_ h=>h.elim)⟩;go_wp2;refine wp_region_held_drew (S:=(λ_=>True)) (by kernel_rfl) (trivial) (λMB=>?_);refine wpAnyH_take (i:=0) (oi:={dst:=some 18,op:=Op.move (Operand.tmp 6),type:=46,pos:= "store.go:35",after:= #[],guard:=none}) (v:=iV 22) rfl (by kernel_rfl) (by kernel_rfl) (by kernel_rfl) (λ_ _ _ h=>h) (Or.inl ⟨by rfl,?_⟩) (by assumption) ?_
   .intro w vF
    (try dsimp only at vF)
    go_simp
   try simp only [Act.put,List.setIfInBounds_toArray,List.set_cons_zero,List.set_cons_succ]
   refine wpAnyH_take (i:=1) (oi:={dst:=some 19,op:=Op.binOp BinOp.neq 46 (Operand.tmp 18) (Operand.const (Value.int IntKind.i64 0)) 46,type:=4,pos:= "store.go:35",after:= #[{on:=0,ground:=Ground.data}],guard:=none}) (v:= .bool true) rfl (by kernel_rfl) (by kernel_rfl) (by kernel_rfl) (λ_ _ _ h=>h) (Or.inl ⟨by rfl,?_⟩) (by assumption) ?_
   .intro w vF
    (try dsimp only at vF)
    go_simp
   try simp only [Act.put,List.setIfInBounds_toArray,List.set_cons_zero,List.set_cons_succ]
   refine wpAnyH_take (i:=2) (oi:={dst:=some 20,op:=Op.move (Operand.tmp 19),type:=4,pos:= "store.go:35",after:= #[{on:=1,ground:=Ground.data}],guard:=none}) (v:= .bool true) rfl (by kernel_rfl) (by kernel_rfl) (by kernel_rfl) (λ_ _ _ h=>h) (Or.inl ⟨by rfl,?_⟩) (by assumption) ?_
   .intro w vF
    (try dsimp only at vF)
    go_simp
   try simp only [Act.put,List.setIfInBounds_toArray,List.set_cons_zero,List.set_cons_succ]
   refine wpAnyH_take (i:=3) (oi:={dst:=some 21,op:=Op.fieldAddr 40 (Operand.tmp 3) 0,type:=0,pos:= "store.go:35",after:= #[{on:=2,ground:=Ground.guard}],guard:=some (2,false)}) (v:=undef) rfl (by kernel_rfl) (by kernel_rfl) (by kernel_rfl) (λ_ _ _ h=>h) (Or.inr ⟨by rfl,rfl⟩) (by assumption) ?_;try simp only [Act.put,List.setIfInBounds_toArray,List.set_cons_zero,List.set_cons_succ]
   refine wpAnyH_take (i:=4) (oi:={dst:=some 22,op:=Op.load 3 (Operand.tmp 21),type:=3,pos:= "store.go:35",after:= #[{on:=3,ground:=Ground.data},{on:=2,ground:=Ground.guard}],guard:=some (2,false)}) (v:=undef) rfl (by kernel_rfl) (by kernel_rfl) (by kernel_rfl) (λ_ _ _ h=>h) (Or.inr ⟨by rfl,rfl⟩) (by assumption) ?_;try simp only [Act.put,List.setIfInBounds_toArray,List.set_cons_zero,List.set_cons_succ]
   refine wpAnyH_take (i:=5) (oi:={dst:=some 23,op:=Op.move (Operand.tmp 0),type:=30,pos:= "store.go:35",after:= #[{on:=2,ground:=Ground.guard}],guard:=some (2,false)}) (v:=undef) rfl (by kernel_rfl) (by kernel_rfl) (by kernel_rfl) (λ_ _ _ h=>h) (Or.inr ⟨by rfl,rfl⟩) (by assumption) ?_;try simp only [Act.put,List.setIfInBounds_toArray,List.set_cons_zero,List.set_cons_succ]
   refine wpAnyH_take (i:=6) (oi:={dst:=some 24,op:=Op.call {callee:=Callee.value (Operand.func 36),args:= #[Operand.tmp 23],argTypes:= #[30]},type:=3,pos:= "store.go:35",after:= #[{on:=5,ground:=Ground.data},{on:=2,ground:=Ground.chain},{on:=2,ground:=Ground.guard}],guard:=some (2,false)}) (v:=undef) rfl (by kernel_rfl) (by kernel_rfl) (by kernel_rfl) (λ_ _ _ h=>h) (Or.inr ⟨by rfl,rfl⟩) (by assumption) ?_;try simp only [Act.put,List.setIfInBounds_toArray,List.set_cons_zero,List.set_cons_succ]
   refine wpAnyH_take (i:=7) (oi:={dst:=some 25,op:=Op.binOp BinOp.neq 3 (Operand.tmp 22) (Operand.tmp 24) 3,type:=4,pos:= "store.go:35",after:= #[{on:=4,ground:=Ground.data},{on:=6,ground:=Ground.data},{on:=2,ground:=Ground.guard}],guard:=some (2,false)}) (v:=undef) rfl (by kernel_rfl) (by kernel_rfl) (by kernel_rfl) (λ_ _ _ h=>h) (Or.inr ⟨by rfl,rfl⟩) (by assumption) ?_;try simp only [Act.put,List.setIfInBounds_toArray,List.set_cons_zero,List.set_cons_succ]
   refine wpAnyH_take (i:=8) (oi:={dst:=some 26,op:=Op.pick (Operand.tmp 20) (Operand.const (Value.bool true)) (Operand.tmp 25),type:=4,pos:= "store.go:35",after:= #[{on:=2,ground:=Ground.data},{on:=7,ground:=Ground.data}],guard:=none}) (v:= .bool true) rfl (by kernel_rfl) (by kernel_rfl) (by kernel_rfl) (λ_ _ _ h=>h) (Or.inl ⟨by rfl,?_⟩) (by assumption) ?_
   .intro w vF
    (try dsimp only at vF)
    go_simp
   try simp only [Act.put,List.setIfInBounds_toArray,List.set_cons_zero,List.set_cons_succ]
   refine wpAnyH_done (by kernel_rfl) ?_ _;go_wp2;go_ret;rw [d];exact⟨rfl,m⟩
end
end
section
abbrev PD (y:LY):Value:= .agg #[iV (y.log:Int),iV (y.home:Int),iV (y.blocks:Int),iV (y.nodes:Int),iV (y.data:Int)]
def Sc:(prog.info? 75).map (·.size)=some 5:=by kernel_rfl
def GR (w:World) (y:LY):(w.alloc (.cells #[.int .i64 (y.log:Int), .int .i64 (y.home:Int), .int .i64 (y.blocks:Int), .int .i64 (y.nodes:Int), .int .i64 (y.data:Int)] 75)).rangeAt w.heap.size 0 [iV (y.log:Int),iV (y.home:Int),iV (y.blocks:Int),iV (y.nodes:Int),iV (y.data:Int)]:=by
 have b:=heap_alloc_new w (.cells #[.int .i64 (y.log:Int), .int .i64 (y.home:Int), .int .i64 (y.blocks:Int), .int .i64 (y.nodes:Int), .int .i64 (y.data:Int)] 75);intro j v a
 match j,a with
 |0,a=>cases a;exact aM b
 |1,a=>cases a;exact bG b
 |2,a=>cases a;exact bK b
 |3,a=>cases a;exact fQ b
 |4,a=>cases a;exact gG b
 |j+5,a=>simp at a
section
variable {w:World} {F:Nat->Prop} {p q l m t n:Nat} {y:LY} {busy:Bool} {G:SG} {T:TG}
def KD (h:ng w q p l m y busy):
  Calls prog 76 #[pQ q] w λe w'=>e= .returned (PD y)/\bW w w':=by
 have h:=h.later (aJ w (.cells #[.int .i64 0, .int .i64 0, .int .i64 0, .int .i64 0, .int .i64 0] 75));obtain⟨a,b,c,d,f⟩:=eK (bK h) (fQ h) (gG h) (sb h) (wZ h);go_in;go_wp2;refine bodyPost_ret (gw (P:=prog) rfl _ _ w.heap.size _ _ rfl (GR w y) underlying75 rfl Sc) rfl ⟨rfl,aJ _ _⟩
def GS (h:ng w q p l m G.y busy) (b:mD w F q l m t n G T):
  Calls prog 89 #[pQ t] w λe w'=>e= .returned (PD G.y)/\bW w w':=by
 have a:=aJ w (.cells #[.int .i64 0, .int .i64 0, .int .i64 0, .int .i64 0, .int .i64 0] 75);have c:=(b.later a).c0;have h:=h.later a;obtain⟨d,f,g,i,j⟩:=eK (bK h) (fQ h) (gG h) (sb h) (wZ h);go_in;go_wp2;refine bodyPost_ret (gw (P:=prog) rfl _ _ w.heap.size _ _ rfl (GR w G.y) underlying75 rfl Sc) rfl ⟨rfl,aJ _ _⟩
end
end
section
def Ol (d:CM.Ok ms) (b:Nat):∃R,ms=below ms b ++ R:=by
 induction ms with
 |nil=>exact⟨[],rfl⟩
 |cons q g f=>
  have c:=List.pairwise_cons.1 d;by_cases h:q.1<b
  .obtain⟨R,e⟩:=f c.2;exact⟨R,by rw [sD,aG h,List.cons_append,<-e]⟩
  .exact⟨q :: g,by rw [oF (λx a=>by rcases List.mem_cons.1 a with rfl|a;exact h;have:=c.1 x a;omega)];rfl⟩
def GT {S:DS} {s b:Nat} (a:CM.Ok ms) (h:(aE S s h0 (below ms b)).1≠0):aE S s h0 ms=aE S s h0 (below ms b):=by
 obtain⟨R,e⟩:=Ol a b
 conv=>lhs;rw [e]
 rw [fq,aG h]
def qu {S:DS} {s:Nat} {a:CM} (h:(aE S s h0 a).1=0) (q:Nat×List Int):aE S s h0 (a ++ [q])=(aE S s h0 a).2.wr s ((h0+q.1:Nat):Int) 512 q.2:=by
 rw [fq,aB (λe=>e h),jz];by_cases e:((aE S s h0 a).2.wr s ((h0+q.1:Nat):Int) 512 q.2).1≠0
 .rw [aG e]
 .rw [aB e];show ((0:Int),_)=_;rw [<-Decidable.not_not.1 e]
def GU {S:DS} {s k:Nat} (a:k<s) (l:List Int):(S.wr s (k:Int) 512 l).1=0\/(S.wr s (k:Int) 512 l).1=3:=by
 unfold DS.wr;split
 .exact .inr rfl
 .rw [aB (by omega),aB (by omega)];exact .inl rfl
def eC {s h0:Nat}:∀{ms:CM} {S:DS},S.Ok s->(∀q∈ms,h0+q.1<s/\q.2.length=512)->((aE S s h0 ms).1=0\/(aE S s h0 ms).1=3)/\(aE S s h0 ms).2.life=S.life/\(aE S s h0 ms).2.Ok s/\((aE S s h0 ms).1≠0->(aE S s h0 ms).2.fuse=0)/\(∀j,(∀q∈ms,h0+q.1≠j)->(aE S s h0 ms).2.now j=S.now j)
 | [],S,hS,_=>⟨.inl rfl,rfl,hS,λh=>absurd rfl h,λ_ _=>rfl⟩
 |q :: qs,S,hS,hk=>by
  have a:=hk q List.mem_cons_self;rw [jz];by_cases e:(S.wr s ((h0+q.1:Nat):Int) 512 q.2).1≠0
  .rw [aG e];obtain⟨b,n⟩:=Rg a.1 e;refine⟨GU a.1 _,kB _ _ _ _ _,by rw [b];exact hS,λ_=>by rw [b];exact n,λj _=>by rw [b]⟩
  .rw [aB e];have d:=Mk (Decidable.not_not.1 e);obtain⟨g,i,k,l,m⟩:=eC (ms:=qs) (tX hS d a.1 a.2) (λx c=>hk x (List.mem_cons_of_mem _ c));refine⟨g,i.trans (kB _ _ _ _ _),k,l,λj f=>?_⟩;rw [m j (λx c=>f x (List.mem_cons_of_mem _ c)),jK d a.1,aB (λh=>f q List.mem_cons_self h.symm)]
def CY {s h0 b:Nat} {c:List Int}:∀{ms:CM} {S:DS},S.Ok s->CM.Ok ms->(∀q∈ms,h0+q.1<s/\q.2.length=512)->(aE S s h0 ms).1=0->CM.get ms b=some c->(aE S s h0 ms).2.now (h0+b)=c
 | [],S,_,_,_,_,h=>by cases h
 |q :: qs,S,hS,ho,hk,Pj,hg=>by
  have d:=hk q List.mem_cons_self;have j:=List.pairwise_cons.1 ho;rw [jz] at Pj⊢;by_cases e:(S.wr s ((h0+q.1:Nat):Int) 512 q.2).1≠0
  .rw [aG e] at Pj;exact absurd Pj e
  .rw [aB e] at Pj⊢;have i:=Mk (Decidable.not_not.1 e);have a:=tX hS i d.1 d.2;have aY:=λx f=>hk x (List.mem_cons_of_mem _ f);rw [CM.lX] at hg;by_cases g:q.1=b
   .rw [aG g] at hg;cases hg;rw [(eC a aY).2.2.2.2 _ (λx f=>by have:=j.1 x f;omega),jK i d.1,aG (by omega)]
   .rw [aB g] at hg;exact CY a j.2 aY Pj hg
def Om (c:CM.Ok ms) (h:∀q∈ms,q.1<n) (b:Nat):(below ms b).length<=n:=by
 have d:(below ms b).length<=ms.length:=List.length_filter_le _ _;rcases CM.length_le c h 0 (λ_ _=>dV _) with a|a
 .omega
 .rw [a];exact dV _
def mH (ps:List (Nat×List Int)):CM.Ok (CM.bT [] ps):=CM.qV rO ps
def eS {ps:List (Nat×List Int)} {x:Nat×List Int} (h:x∈CM.bT [] ps):x∈ps:=by
 have a:=CM.get_of_mem (mH ps) (k:=x.1) (c:=x.2) h;rw [gZ] at a;exact E6 a
section
variable {w w':World} {F X:Nat->Prop} {r s k kl t hm:Nat} {S:DS} {y:LY} {v:Value} {ps:List (Nat×List Int)}
def GV (xM:aa F w0 w1) (hd:aC w2 (more (more F w0 w1) w1 w2) r s S') (a:aa (more F w0 w1) w1 w2):aC w2 (more F w0 w2) r s S'/\aa F w0 w2:=by
 have gB:=xM.size;have b:=a.size;refine⟨hd.mono (λk a=>?_) (λk a=>?_),xM.trans a (λk a=>?_)⟩
 .rcases a with (a|a)|a
  .exact .inl a
  .exact .inr ⟨a.1,by omega⟩
  .exact .inr ⟨by omega,a.2⟩
 .rcases a with a|a
  .exact hd.lt k (.inl (.inl a))
  .exact a.2
 .rcases a with a|a
  .exact .inl a
  .exact .inr a.1
def uj (b:bW w0 w1) (hd:aC w2 (more F w1 w2) r s S') (a:aa F w1 w2):aC w2 (more F w0 w2) r s S'/\aa F w0 w2:=by
 have gB:=b.size;refine⟨hd.mono (λk a=>a.imp id (λh=>⟨by omega,h.2⟩)) (λk a=>?_),(aa.ah F b).trans a (λ_ h=> .inl h)⟩;rcases a with a|a
 .exact hd.lt k (.inl a)
 .exact a.2
def Af (hd:aC w F r s S) (h:PV w X v ps) (fM:∀g,X g->¬F g) (hs:y.home+y.blocks<=s) (pb:∀x∈ps,x.1<y.blocks) (aU:S.puts.length+3000<=4000000000000) (V9:ps.length<=4000000000000):
  Calls prog 120 #[pQ r,PD y,v] w λe w'=>e= .returned (iV (aE S s y.home (CM.bT [] ps)).1)/\aC w' (more F w w') r s (aE S s y.home (CM.bT [] ps)).2/\aa F w w':=by
 obtain⟨a,c,rfl,-⟩:=h.form;obtain⟨W,E⟩:∃W,W=w.alloc (.cells #[.int .i64 (y.log:Int), .int .i64 (y.home:Int), .int .i64 (y.blocks:Int), .int .i64 (y.nodes:Int), .int .i64 (y.data:Int)] 75):=⟨_,rfl⟩;have D:bW w W:=by rw [E];exact(bi w.heap.size w).alloc (bS _) _
 have hg:W.heap[w.heap.size]? =some (.cells #[.int .i64 (y.log:Int), .int .i64 (y.home:Int), .int .i64 (y.blocks:Int), .int .i64 (y.nodes:Int), .int .i64 (y.data:Int)] 75 (0,0)):=by rw [E];exact heap_alloc_new _ _
 have hWs:W.heap.size=w.heap.size+1:=by rw [E];simp
 have du:=hd.ok;have lz:=du.hi;have bq:=hd.lt;have R:=mH ps;have Eo:∀q∈CM.bT [] ps,y.home+q.1<s/\q.2.length=512:=λq G=>⟨by have:=pb q (eS G);omega,(h.len q (eS G)).1⟩;have UI:=λq G=>pb q (eS G);have adR:=gZ ps;have t:ps.length=0->CM.bT [] ps= []:=λe=>by rw [List.length_eq_zero_iff.1 e];rfl
 generalize CM.bT [] ps=M at*;obtain⟨P,HP,HF,HK,n,p,HG,HZ,I,q22⟩:=vV (yh (hd.later D)) (yh (h.later D)) (yh (eC du Eo).1) (yh Eo) (yh R) (yh UI) (yh adR) (yh t) (yh D) Ro;clear hd h Eo R UI adR t D;go_in;go_wp2;rw [<-E];go_loopw [7] (λi wr=>∃b:Nat,b<=y.blocks/\i=iV (b:Int)/\(aE S s y.home (below M b)).1=0/\aC wr (more F W wr) r s (aE S s y.home (below M b)).2/\aa F W wr) (λi _=>y.blocks-(intOf i).toNat);case atStart=>exact⟨0,dV _,rfl,by rw [sG];rfl,by rw [sG];exact(P.o.mono (λ_ h=> .inl h) (λk u=>by rcases u with u|u;exact P.o.lt k u;exact u.2)),aa.refl _ _⟩
 case round=>
  obtain⟨b,hb,rfl,h0,kt,Bd⟩:=hrel;have dH:=(Bd.block w.heap.size (by omega) (λhF=>by have:=bq _ hF;omega)).trans hg;have b1:wr.cell? (aD w.heap.size 1)=some (iV (y.home:Int)):=bG dH;have b2:wr.cell? (aD w.heap.size 2)=some (iV (y.blocks:Int)):=bK dH;have A:=HP.o.aw Bd fM;obtain⟨Jb,py,lx,m,j,f,Cg⟩:=nw (qW A b (by omega)) (eF S s y.home (below M b)) (Om n.o p.o b) (yh h0) (yh kt) (yh Bd) (HG.o b);clear h0 kt Bd A dH;by_cases q:b<y.blocks/\0<ps.length
  .have U:(b:Int)<(y.blocks:Int):=(by omega);have q2:(0:Int)<(ps.length:Int):=(by omega);obtain⟨Y,qp⟩:=q;cases T:jB ps b with
   |none=>
    rw [T] at Jb Cg;go_wp2_with fail;refine Jb.mono ?_;rintro e w1 ⟨N,O⟩;subst O;rcases N with ⟨_,rfl⟩|⟨l',g,c',L,_⟩
    .clear Jb;go_wp2;go_roundw;case rel=>exact⟨b+1,by omega,by go_num,by rw [sE n.o Cg];exact m.o,by rw [sE n.o Cg];exact j.o,f.o⟩
     case measure=>simp [intOf];omega
    .cases L
   |some l=>
    rw [T] at Jb Cg;have xZ:∀(g c':Nat),ay wr 5 g c' (bs l)->l.length=512->_:=λg c' H hl=>iE j.o ((y.home:Int)+(b:Int)) (some (aD g 0)) 512 c' l (by have:=H.src;rwa [hl] at this) (by omega);have HW:=yh xZ;have adT:=(HK.o (b,l) (CM.get_mem Cg)).2;clear xZ;go_wp2_with fail;refine Jb.mono ?_;rintro e w1 ⟨N,O⟩;subst O;rcases N with ⟨h0,_⟩|⟨l',g,c',L,rfl,hX,H⟩
    .cases h0
    cases L;have dE:=HW.o g c' H adT;have ie:=qu m.o (b,l);rw [<-sF n.o Cg] at ie;have ud:((y.home+b:Nat):Int)=(y.home:Int)+(b:Int):=(by omega);rw [ud] at ie;rw [<-ie] at dE;clear Jb H ie;by_cases z:(aE S s y.home (below M (b+1))).1=0
    .have d:((aE S s y.home (below M (b+1))).1 != 0)=false:=(by rw [z];rfl);have K:=yh z;clear z;go_wp2_with fail;refine fR dE λw2 cI aY=>?_;have C:=yh (GV f.o cI aY);clear dE cI aY;go_wp2;go_roundw;case rel=>exact⟨b+1,by omega,by go_num,K.o,C.o⟩
     case measure=>simp [intOf];omega
    .have d:((aE S s y.home (below M (b+1))).1 != 0)=true:=(by rw [gA];exact z);have bw:=GT n.o z;have J:=yh bw;have Q:=HF.o.resolve_left (by rw [bw];exact z);have Z:=yh Q;clear z bw Q;go_wp2_with fail;refine fR dE λw2 cI aY=>?_;have C:=yh (GV f.o cI aY);clear dE cI aY;go_wp2;go_ret;refine⟨by rw [Z.o];rfl,?_⟩;rw [J.o];exact uj I.o C.o.1 C.o.2
  .have bV:below M b=M:=by
    by_cases Y:b<y.blocks
    .have:=HZ.o (by omega);subst this;rfl
    .exact CH (λx hx=>by have:=p.o x hx;omega)
   have jH:(aE S s y.home M).1=0/\aC wr (more F W wr) r s (aE S s y.home M).2:=(by rw [<-bV];exact⟨m.o,j.o⟩);have mU:=yh jH;clear jH Jb bV;by_cases Y:b<y.blocks
   .have U:(b:Int)<(y.blocks:Int):=(by omega);have q2:¬(0:Int)<(ps.length:Int):=(by omega);clear q;go_wp2;go_ret;exact⟨by rw [mU.o.1];rfl,uj I.o mU.o.2 f.o⟩
   .have U:¬(b:Int)<(y.blocks:Int):=(by omega);clear q;go_wp2;go_ret;exact⟨by rw [mU.o.1];rfl,uj I.o mU.o.2 f.o⟩
end
end
section
def rg (w w':World) (code:Int) (c:List Int) (e:Ending):Prop:=
 if code≠0 then e= .returned (.tuple #[.slice none 0 0,iV code])
 else∃g,e= .returned (.tuple #[.slice (some (aD g 0)) 512 512,iV 0])/\w.heap.size<=g/\ay w' 5 g 512 (bs c)
section
variable {w w':World} {F X:Nat->Prop} {r s k kl t hm:Nat} {S:DS} {G:SG} {T:TG} {pv nv tv:Value} {ps us:List (Nat×List Int)}
def iL.aad (hd:aC w F r s S) (h:iL w F X r s S k kl G pv ps hm nv) {b:Nat} (d:b<G.y.blocks):(G.block S b).length=512:=by
 unfold SG.block;cases a:CM.get G.ov b with
 |none=>rw [Option.getD_none];exact bu hd.ok _ (by have:=h.hs;omega)
 |some c=>
  rw [Option.getD_some];rw [h.ov] at a;exact(h.pl.len _ (List.mem_of_mem_drop (eS (CM.get_mem a)))).1
def Ag (hd:aC w F r s S) (h:iL w F X r s S k kl G pv ps hm nv) (m:nY w X k t G T tv us) (b:Int) (aU:S.puts.length<=4000000000000) (V9:ps.length<=4000000000000):
  Calls prog 80 #[pQ t,iV b] w λe w'=>rg w w' (T.refusal G S b) (T.jY G S b.toNat) e/\bW w w':=by
 have f:=kq hd h m.tx;have hz:T.refusal G S b=0->G.L.dead S=false/\T.ended=false/\T.bad=0/\0<=b/\b<(G.y.blocks:Int):=iW;by_cases q:T.state G S=0
 .have d:(T.state G S != 0)=false:=by rw [q];rfl
  by_cases P:b<0
  .have j:T.refusal G S b=11:=(by unfold TG.refusal;rw [aB (λh=>h q),aG (.inl P)]);rw [j];generalize T.state G S=E at*;go_in;go_wp2_with fail;refine bM f λw1 ar=>?_;have a:=ar;go_wp2;go_ret2;exact⟨rfl,a⟩
  .by_cases Q:(G.y.blocks:Int)<=b
   .have j:T.refusal G S b=11:=(by unfold TG.refusal;rw [aB (λh=>h q),aG (.inr Q)]);rw [j];have v:=m.tx;have u:=h.st;generalize T.state G S=E at*;go_in;go_wp2_with fail;refine bM f λw1 ar=>?_;have M:=(v.later ar).c0;have N:=(u.later ar).c4;have a:=ar;go_wp2;go_ret2;exact⟨rfl,a⟩
   .have j:T.refusal G S b=0:=(by unfold TG.refusal;rw [aB (λh=>h q),aB (λh=>h.elim P Q)]);obtain⟨r1,r2,_,_,_⟩:=hz j;rw [j];obtain⟨b,rfl⟩:∃b':Nat,b=(b':Int):=⟨b.toNat,by omega⟩;rw [Int.toNat_natCast];have O:b<G.y.blocks:=(by omega);have ai8:T.jY G S b=(jB us b).getD (G.block S b):=(by unfold TG.jY;rw [m.pu r2,gZ]);rw [ai8];obtain⟨lx,J,adU,v,u⟩:=eK (iL.aad hd h O) m.pl.len m.Eg m h;have p:=(λ(w1:World) (f:bW w w1)=>qW (m.pl.later f).pv b (by omega));have z:=(λ(w1:World) (f:bW w w1)=>zR (hd.later f) (h.later f) r1 b O aU V9);generalize T.state G S=E at*;have I3:∀(i:World) (g c:Nat) (l:List Int),bW w i->ay i 5 g c (bs l)->l.length=512->Calls prog 91 #[.slice (some (aD g 0)) 512 c] i λe w'=>∃g,e= .returned (.slice (some (aD g 0)) 512 512)/\i.heap.size<=g/\ay w' 5 g 512 (bs l)/\bW i w':=λi g c l _ o H=>lP (some (aD g 0)) 512 c l i (by omega) (by have:=o.src;rwa [H] at this);have n:=I3;have q22:=Ro;cases D:jB us b with
    |some l=>
     have H:=(J (b,l) (E6 D)).1;rw [D] at p;go_in;go_wp2_with fail;refine bM f λw1 ar=>?_;have wH:=v.tx.later ar;obtain⟨M,W,N,x,a⟩:=eK wH.c0 wH.c1 ((u.st.later ar).c4) (p w1 ar) ar;go_wp2_with fail;refine x.mono ?_;rintro e i ⟨I,K⟩;subst K;rcases I with ⟨h0,_⟩|⟨l',g,c,A,rfl,hX,o⟩
     .cases h0
     cases A;have C:=n i g c l a o H;go_wp2_with fail;refine C.mono ?_;rintro e R ⟨Y,rfl,Fc,A3,bF⟩;have Jc:=A3;have gd:=bF;go_wp2;go_ret2;exact⟨⟨Y,rfl,by have:=a.size;omega,Jc⟩,a.trans (gd.mono a.size)⟩
    |none=>
     rw [D] at p;go_in;go_wp2_with fail;refine bM f λw1 ar=>?_;have wH:=v.tx.later ar;obtain⟨M,W,N,x,hk,a⟩:=jE wH.c0 wH.c1 ((u.st.later ar).c4) (p w1 ar) (z w1 ar) ar;go_wp2_with fail;refine x.mono ?_;rintro e i ⟨I,K⟩;subst K;rcases I with ⟨_,rfl⟩|⟨l',g,c,A,_⟩
     .clear x;go_wp2_with fail;refine hk.mono ?_;rintro e R ⟨⟨g,c,rfl,hX,o⟩,bF⟩;have C:=n R g c _ (a.trans (bF.mono a.size)) o lx;have gd:=(a.trans (bF.mono a.size));go_wp2_with fail;refine C.mono ?_;rintro e w4 ⟨Z,rfl,Gm,wL,fw⟩;have VG:=wL;have jU:=fw;go_wp2;go_ret2;exact⟨⟨Z,rfl,by have:=gd.size;omega,VG⟩,gd.trans (jU.mono gd.size)⟩
     .cases A
 .have d:(T.state G S != 0)=true:=by rw [gA];exact q
  have j:T.refusal G S b=T.state G S:=by unfold TG.refusal;rw [aG q]
  rw [j];have U:=q;generalize T.state G S=E at*;go_in;go_wp2_with fail;refine bM f λw1 ar=>?_;have a:=ar;go_wp2;go_ret2;exact⟨by unfold rg;rw [aG U];rfl,a⟩
end
end
def GW {α:Type} (l:List α) (a:i<l.length):l=l.take i ++ l[i] :: l.drop (i+1):=by rw [<-List.drop_eq_getElem_cons a,List.take_append_drop]
def Fa (a c:List (Nat×List Int)) (q:Nat×List Int) (j:Nat):jB (a ++ q :: c) j=((jB c j).or (if q.1=j then some q.2 else none)).or (jB a j):=by rw [l8,jB]
def Xq {b:Nat} (a:i<us.length) (c:us[i].1=b) (f:(us.map (·.1)).Nodup) (j:Nat):jB (us.set i (b,d)) j=if j=b then some d else jB us j:=by
 have g:us.set i (b,d)=us.take i ++ (b,d) :: us.drop (i+1):=by rw [List.set_eq_take_append_cons_drop,aG a]
 have k:jB us j=((jB (us.drop (i+1)) j).or (if us[i].1=j then some us[i].2 else none)).or (jB (us.take i) j):=by
  have:=Fa (us.take i) (us.drop (i+1)) us[i] j;rwa [<-(GW us a)] at this
 rw [g,Fa,k,c];by_cases q:j=b
 .subst q;have i9:jB (us.drop (i+1)) j=none:=uN (λx l e=>by
   obtain⟨n,jk,rfl⟩:=List.mem_iff_getElem.1 l;rw [List.getElem_drop] at e;rw [List.length_drop] at jk;rw [List.nodup_iff_pairwise_ne,List.pairwise_iff_getElem] at f;have:=f i (i+1+n) (by simpa using a) (by rw [List.length_map];omega) (by omega);simp only [List.getElem_map] at this;exact this (c.trans e.symm))
  rw [aG rfl,i9,aG rfl];rfl
 .have m:¬b=j:=λh=>q h.symm;rw [aB q];simp only [aB m]
def Sd {b:Nat} (c:i<us.length) (a:us[i].1=b) (e:(us.map (·.1)).Nodup):CM.bT [] (us.set i (b,d))=CM.put (CM.bT [] us) b d:=by
 refine CM.ext (CM.qV rO _) (CM.vn (CM.qV rO _) _ _) (λj=>?_);rw [gZ,Xq c a e,CM.kC _ _ _ _ (CM.qV rO _),gZ]
def On (us:List (Nat×List Int)) (b:Nat) (d:List Int):CM.bT [] (us ++ [(b,d)])=CM.put (CM.bT [] us) b d:=by
 rw [p8];rfl
def qv:∀{us:List (Nat×List Int)} {ms:CM},CM.Ok ms->(us.map (·.1)).Nodup->(∀x∈us,CM.get ms x.1=none)->(CM.bT ms us).length=ms.length+us.length
 | [],ms,_,_,_=>rfl
 |q :: qs,ms,ho,hn,hd=>by
  rw [List.map_cons,List.nodup_cons] at hn;show (CM.bT (CM.put ms q.1 q.2) qs).length=_;rw [qv (CM.vn ho _ _) hn.2 (λx a=>by
   rw [CM.kC _ _ _ _ ho,aB (λ(e:x.1=q.1)=>hn.1 (e▸List.mem_map_of_mem (f:=λx=>x.1) a))];exact hd x (List.mem_cons_of_mem _ a)),CM.sC ho,hd q List.mem_cons_self]
  simp;omega
def vG (a:(us.map (·.1)).Nodup):(CM.bT [] us).length=us.length:=by rw [qv rO a (λ_ _=>rfl)];simp
def Se {b:Nat} (g:i<us.length) (a:us[i].1=b):(us.set i (b,d)).map (·.1)=us.map (·.1):=by
 rw [List.map_set];apply List.ext_getElem
 .simp
 .intro n c f;rw [List.getElem_set];split
  .rename_i e;subst e;simp [a]
  .rfl
def wX {b:Nat} (d:i<us.length) (c:us[i].1=b):(jB us b).isSome=true:=by
 cases h:jB us b with
 |some _=>rfl
 |none=>
  exfalso;have a:jB us b=((jB (us.drop (i+1)) b).or (if us[i].1=b then some us[i].2 else none)).or (jB (us.take i) b):=by
   have:=Fa (us.take i) (us.drop (i+1)) us[i] b;rwa [<-GW us d] at this
  rw [aG c,h] at a;cases e:jB (us.drop (i+1)) b <;> rw [e] at a <;> simp at a
def IM {b:Nat} (h:∀j (a:j<us.length),us[j].1≠b):jB us b=none:=uN (λq c=>by
 obtain⟨j,a,rfl⟩:=List.mem_iff_getElem.1 c;exact h j a)
section
section
variable {w w' w1 w2:World} {F X:Nat->Prop} {r s k kl t hm:Nat} {S:DS} {G:SG} {T:TG} {v pv nv tv:Value} {ps us:List (Nat×List Int)} {xs:List Value}
def PL.push (h:PL w X v ps xs) {o:Obj} {b:Nat} (A:X g) (z:ay w 5 g c (bs l)) (y:l.length=512/\Bytes l)
    (aA:w2.ownsRow 0 166 2 (.slice (some (aD g2 0)) (ps.length+1) cz) (ps.length+1) (xs ++ [iV (b:Int), .slice (some (aD g 0)) 512 c]))
    (aR:(w.alloc o).grownBy w2 v.ownBlock) (is:v.ownBlock=some g2\/g2=w.heap.size+1):
  PL w2 (more X w w2) (.slice (some (aD g2 0)) (ps.length+1) cz) (ps ++ [(b,l)]) (xs ++ [iV (b:Int), .slice (some (aD g 0)) 512 c])/\aa (λj=>v.ownBlock=some j) w w2:=by
 have YU:(w.alloc o).heap.size=w.heap.size+1:=by simp
 have jC:=aR.size;have d:=λj a k=>(aR.block j (by omega) k).trans (Below.heap_alloc _ _ _ a);have Mn:∀j c m,ay w 5 j c m->ay w2 5 j c m:=λj c m a=>by
  have AZ:=a;obtain⟨cur,gW,_⟩:=AZ;exact a.agree (d j a.lt (λe=>dS h.own e.symm gW (by decide) rfl))
 have Rn:=qf aA (g:=g2) rfl;have IV:=h.own.1;refine⟨⟨by rw [ed];exact aA,λj a=>?_,λi x=>?_,λq f=>?_⟩,⟨aR.os,aR.tape,aR.output,by omega,λj a k=>d j a (λe=>k e.symm)⟩⟩
 .have e:j=g2:=by simpa [Value.ownBlock] using a.symm
  subst e;rcases is with n|n
  .exact .inl (h.row _ n)
  .exact .inr ⟨by omega,Rn⟩
 .by_cases ny:i<ps.length
  .obtain⟨u,c',p,r,s,t⟩:=h.put i ny;refine⟨u,c',?_,?_, .inl s,?_⟩
   .rw [List.getElem?_append_left (by omega),p,List.getElem_append_left ny]
   .rw [List.getElem?_append_left (by omega),r]
   .rw [List.getElem_append_left ny];exact Mn _ _ _ t
  .have Fd:i=ps.length:=(by simp at x;omega);subst Fd;refine⟨g,c,?_,?_, .inl A,?_⟩
   .rw [List.getElem?_append_right (by omega),show 2*ps.length-xs.length=0 by omega];simp
   .rw [List.getElem?_append_right (by omega),show 2*ps.length+1-xs.length=1 by omega];simp
   .simpa using Mn _ _ _ z
 .rcases List.mem_append.1 f with f|f
  .exact h.len q f
  .rw [List.mem_singleton.1 f];exact y
def PL.store (h:PL w X v ps xs) {b:Nat} (I:i<ps.length) (D:ps[i].1=b) {o:Nat} (H:X g) (F:ay w 5 g c (bs l)) (E:l.length=512/\Bytes l) (G:v= .slice (some (aD gp 0)) n o):
  PL (w.setCell ⟨gp,i*2+1,none⟩ (.slice (some ⟨g,0,none⟩) 512 c)) X v (ps.set i (b,l)) (xs.set (2*i+1) (.slice (some (aD g 0)) 512 c)):=by
 subst G;obtain⟨_,⟨e,_⟩|⟨p,r,cur,e,x,aV,y,z,A,C⟩⟩:=h.own
 .cases e
 cases e;have Mn:∀j f m,ay w 5 j f m->ay (w.setCell ⟨gp,i*2+1,none⟩ (.slice (some ⟨g,0,none⟩) 512 c)) 5 j f m:=λj f m a=>a.agree (Below.heap_setCell _ _ _ _ (a.ne aV (by decide)));refine⟨⟨by rw [List.length_set,List.length_set];exact h.own.1, .inr ⟨gp,o,cur.setIfInBounds (i*2+1) (.slice (some (aD g 0)) 512 c),by rw [List.length_set],x,heap_setCell_same _ _ _ _ _ _ aV,by rw [List.length_set];exact y,z,by rw [Array.size_setIfInBounds];exact A,?_⟩⟩,h.row,λj a=>?_,λq d=>?_⟩
 .rw [List.length_set,Array.toList_setIfInBounds,List.take_set,C,Nat.mul_comm i 2]
 .have YN:j<ps.length:=by rw [List.length_set] at a;exact a
  by_cases e:j=i
  .subst e;refine⟨g,c,?_,?_,H,?_⟩
   .rw [List.getElem?_set_ne (by omega)];obtain⟨_,_,k,_⟩:=h.put j YN;rw [k];simp [D]
   .rw [List.getElem?_set_self (by omega)]
   .simpa using Mn _ _ _ F
  .obtain⟨p,c',k,s,t,u⟩:=h.put j YN;refine⟨p,c',?_,?_,t,?_⟩
   .rw [List.getElem?_set_ne (by omega),k,List.getElem_set_ne (λh=>e h.symm)]
   .rw [List.getElem?_set_ne (by omega),s]
   .rw [List.getElem_set_ne (λh=>e h.symm)];exact Mn _ _ _ u
 .rcases List.mem_or_eq_of_mem_set d with d|d
  .exact h.len q d
  .rw [d];exact E
end
end
def sQ (w:World):Calls prog 183 #[.bool true] w λe w'=>e= .returned (.tuple #[])/\w'=w:=by
 go_in;go_wp2
 go_end0
 exact⟨rfl,rfl⟩
abbrev mV:List PanicEntry:= [{v:= .iface 46 (iV 6),recovered:=false}]
def Ep (w:World):Calls prog 183 #[.bool false] w λe w'=>e= .panicked mV/\w'=w:=by
 go_in;go_wp2;exact⟨rfl,rfl,rfl⟩
def vH (w:World) (p b o n c k:Nat):Prop:=w.heap[p]? =some (.cells #[.slice (some ⟨b,o,none⟩) n c, .int .i64 (k:Int)] 223 (0,0))
def x9 (p b o n c k m:Nat) (w:World) (h:vH w p b o n c k) (u:k+m<=n) (v:n<=c) (Bb:k<c) (t:n<=1000000) (pf:c<=9223372036854775807):
  Calls prog 220 #[pQ p,iV (m:Int)] w λe w'=>e= .returned (.slice (some ⟨b,o+k,none⟩) m (c-k))/\vH w' p b o n c (k+m)/\aa (λj=>j=p) w w':=by
 have q:=aM h;have r:=bG h;have s:=ae h 1;have apy:(m:Int)<=(n:Int)-(k:Int):=by omega
 have bO:IntKind.i64.wrap ((n:Int)-(k:Int))=(n:Int)-(k:Int):=by rw [IntKind.wrap_i64];omega
 have d:(vH (w.setCell ⟨p,1,none⟩ (.int .i64 ((k:Int)+(m:Int)))) p b o n c (k+m)):=by
  show vH _ _ _ _ _ _ _;unfold vH;rw [(heap_setCell_same _ _ 1 _ _ (iV ((k:Int)+(m:Int))) h)];simp
 have a:=(aa.setCell (F:=λj=>j=p) (p:=⟨p,1,none⟩) w rfl (iV ((k:Int)+(m:Int))));go_in;go_wp2_with fail;go_quiet (first|(go_at_call 183;exact Calls.quiet_of_same (sQ _)));go_wp2;have f:(0:Int)<=(k:Int):=by omega
 have g:(k:Int)<=(k:Int)+(m:Int):=by omega
 have i:(k:Int)+(m:Int)<=(c:Int):=by omega
 have l:¬c=k:=by omega
 go_quiet (fail);go_wp2;go_ret;exact⟨congrArg (λz=>Ending.returned (Value.slice (some ⟨b,o+k,none⟩) z (c-k))) (Nat.add_sub_cancel_left k m),d,⟨a.os,a.tape,a.output,a.size,a.block⟩⟩
def Wn (i A X:Nat) (c:A<2 ^ i) (h:A+2 ^ i*X<18446744073709551616):
  bits .or .i64 (wrap64 (A:Int)) (wrap64 ((2 ^ i*X:Nat):Int))=wrap64 ((A+2 ^ i*X:Nat):Int):=by
 have q:∀z:Nat,z<18446744073709551616->(BitVec.ofInt 64 (wrap64 (z:Int))).toNat=z:=by
  intro z d;rw [BitVec.toNat_ofInt];unfold wrap64;omega
 have a:A<18446744073709551616:=by omega
 have b:2 ^ i*X<18446744073709551616:=by omega
 show IntKind.i64.wrap ((BitVec.ofInt 64 (wrap64 (A:Int)) |||BitVec.ofInt 64 (wrap64 ((2 ^ i*X:Nat):Int))).toNat:Int)=_;rw [BitVec.toNat_or,q A a,q _ b,Nat.or_comm,<-Nat.two_pow_add_eq_or_of_lt c X,Nat.add_comm,IntKind.wrap_i64];unfold wrap64;rfl
def BM (a:k<l.length) (b:Bytes l):le (l.take (k+1))=le (l.take k)+2 ^ (8*k)*(l.getD k 0).toNat:=by
 rw [List.take_succ_eq_append_getElem a,uT];have:(l.take k).length=k:=by simp;omega
 rw [this];simp [le,List.getD,a]
def part (l:List Int) (k m:Nat):List Int:=(l.drop k).take m
def fD {m:Nat} (h:k+m<=l.length):(part l k m).length=m:=by simp [part];omega
def dT (h:Bytes l) (k m:Nat):Bytes (part l k m):=λx a=>h x (List.mem_of_mem_drop (List.mem_of_mem_take a))
def uk {m:Nat} (a:i<m):(part l k m).getD i 0=l.getD (k+i) 0:=by simp [part,List.getD,a]
structure Rd (w:World) (p b o c k:Nat) (l:List Int):Prop where
 rd:vH w p b o l.length c k
 ne:b≠p
 src:∀i,i<l.length->w.cell? ⟨b,o+i,none⟩=some (.int .u8 (l.getD i 0))
 bytes:Bytes l
 small:l.length<=1000000
 cap:l.length<=c
 Oo:c<=9223372036854775807
 old:0<l.length->b<w.heap.size
def Rd.aw {b o e:Nat} (h:Rd w p b o c k l) (g:vH w' p b o l.length c e) (d:aa (λj=>j=p) w w'):Rd w' p b o c e l:=
   ⟨g,h.ne,λi f=>by
  exact(World.cell?_of_block (w:=w) (a:=⟨b,o+i,none⟩) (d.block b (h.old (by omega)) h.ne)).trans (h.src i f),h.bytes,h.small,h.cap,h.Oo,λh0=>i5 (h.old h0) d.size⟩
def Rd.lQ {b o:Nat} (h:Rd w p b o c k l) (a:bW w w'):Rd w' p b o c k l:=by
 exact⟨(a.block p ((lR.1 h.rd).1)).trans h.rd,h.ne,λi d=>cell_later a (h.src i d),h.bytes,h.small,h.cap,h.Oo,λh0=>i5 (h.old h0) a.size⟩
def oJ (p b o c k m:Nat) (l:List Int) (w:World) (h:Rd w p b o c k l) (s:k+m<=l.length) (Bb:k<c) (A:m<=8):
  Calls prog 185 #[pQ p,iV (m:Int)] w λe w'=>e= .returned (iV (wrap64 ((le (part l k m):Nat):Int)))/\Rd w' p b o c (k+m) l/\aa (λj=>j=p) w w':=by
 have t:=x9 p b o l.length c k m w h.rd s h.cap Bb h.small h.Oo;have H:=yh h;clear h;go_in;go_wp2_with fail;refine fR t λw1 mj ff=>?_;have g:=H.o.aw mj ff;have H1:=yh (aH g ff);have py:=fD s;clear t mj ff g;go_wp2;go_loopw [5,12] (λr i wr=>∃j:Nat,j<=m/\i=iV j/\wr=w1/\r=iV (wrap64 ((le ((part l k m).take j):Nat):Int))) (λ_ i _=>m-(intOf i).toNat);case atStart=>exact⟨0,dV _,rfl,rfl,by simp [le,wrap64]⟩
 case round=>
  obtain⟨j,z,rfl,rfl,rfl⟩:=hrel;by_cases bq:j<m
  .have cC:(j:Int)<(m:Int):=(by omega);have q:=H1.o.1.src (k+j) (by omega);rw [<-uk (l:=l) (k:=k) bq,<-Nat.add_assoc] at q;obtain⟨x,v,jI⟩:∃x:Nat,(part l k m).getD j 0=(x:Int)/\x<256:=by
    have:=dT H1.o.1.bytes k m (part l k m)[j] (List.getElem_mem (by omega));refine⟨((part l k m).getD j 0).toNat,?_,?_⟩<;> simp [List.getD,py,bq] <;> omega
   have iz:=BM (l:=part l k m) (k:=j) (by omega) (dT H1.o.1.bytes k m);have n:le ((part l k m).take j)<2 ^ (8*j):=by
    have:=lw (l:=(part l k m).take j) (λy f=>dT H1.o.1.bytes k m y (List.mem_of_mem_take f));have e:((part l k m).take j).length=j:=(by simp;omega);rwa [e] at this
   have d:le ((part l k m).take (j+1))<18446744073709551616:=by
    have:=lw (l:=(part l k m).take (j+1)) (λy f=>dT H1.o.1.bytes k m y (List.mem_of_mem_take f));have e:((part l k m).take (j+1)).length=j+1:=(by simp;omega);rw [e] at this;exact i5 this (by have:=Nat.pow_le_pow_right (show 0<2 by omega) (show 8*(j+1)<=64 by omega);simpa using this)
   rw [v] at q iz;simp only [Int.toNat_natCast] at iz;rw [iz] at d;have M8:=Wn (8*j) _ x n d;rw [<-iz] at M8;have Ze:((x:Int)*2 ^ (8*j))=((2 ^ (8*j)*x:Nat):Int):=(by rw [Int.natCast_mul,Int.natCast_pow,Int.mul_comm];rfl);have ud:((2 ^ (8*j)*x:Nat):Int)=2 ^ (8*j)*(x:Int):=(by rw [Int.natCast_mul,Int.natCast_pow];rfl);rw [ud] at M8;have a:=yh M8;clear n d iz M8 ud;go_wp2;go_roundw;case rel=>exact⟨j+1,by omega,by go_num,trivial,by rw [a.o]⟩
   case measure=>simp [intOf];omega
  .have cC:¬(j:Int)<(m:Int):=(by omega);have u:(part l k m).take j=part l k m:=nr (by omega);rw [u] at*;go_wp2;go_ret;exact⟨rfl,H1.o⟩
def ul (l:List Int):Prop:=∀x∈l,x=0
def Sf (l:List Int) (e:Ending):Prop:=∃x,e= .returned (.bool x)/\(x=true↔ul l)
def CZ (b o n c:Nat) (l:List Int) (w:World) (t:l.length=n) (v:n<=1000000) (m:∀i,i<n->w.cell? ⟨b,o+i,none⟩=some (.int .u8 (l.getD i 0))):
  Calls prog 221 #[.slice (some (aD b o)) n c] w λe w'=>Sf l e/\w'=w:=by
 have q:=yh m;clear m;go_in;go_wp2;go_loopw [7] (λi wr=>∃k:Nat,k<=n/\i=iV k/\wr=w/\∀j,j<k->l.getD j 0=0) (λi _=>n-(intOf i).toNat);case atStart=>exact⟨0,dV _,rfl,rfl,λj f=>by omega⟩
 case round=>
  obtain⟨k,u,rfl,rfl,p⟩:=hrel;have g:=yh p;clear p;by_cases bq:k<n
  .have cC:(k:Int)<(n:Int):=(by omega);have s:=q.o k bq;by_cases a:l.getD k 0=0
   .have r:=yh a;rw [a] at s;clear a;go_wp2;go_roundw;case rel=>
     refine⟨k+1,by omega,by go_num,trivial,λj f=>?_⟩;by_cases e:j=k
     .rw [e];exact r.o
     .exact g.o j (by omega)
    case measure=>simp [intOf];omega
   .have Um:(l.getD k 0 != 0)=true:=(by rw [gA];exact a);have d:Yh (¬ul l):=λh=>absurd (h (l.getD k 0) (by simp [List.getD,t,bq])) a;generalize l.getD k 0=X at*;clear a;go_wp2;go_ret;exact⟨⟨_,rfl,⟨(λh=>by cases h),λh=>absurd h d.o⟩⟩,rfl⟩
  .have cC:¬(k:Int)<(n:Int):=(by omega);have d:Yh (ul l):=λx a=>by
    obtain⟨j,f,e⟩:=List.mem_iff_getElem.1 a;have:=g.o j (by omega);rw [<-e];simpa [List.getD,f] using this
   go_wp2;go_ret;exact⟨⟨_,rfl,⟨λ_=>d.o,λ_=>rfl⟩⟩,rfl⟩
def Rd.part {b o:Nat} (h:Rd w p b o c k l) {q m:Nat} (d:q+m<=l.length):∀i,i<m->w.cell? ⟨b,o+q+i,none⟩=some (.int .u8 ((part l q m).getD i 0)):=λi a=>by
 rw [uk a,Nat.add_assoc];exact h.src (q+i) (by omega)
def C0 (p b o c k m:Nat) (l:List Int) (w:World) (h:Rd w p b o c k l) (g:k+m<=l.length) (Bb:k<c) (q:ul (part l k m)):
  Calls prog 186 #[pQ p,iV ((k+m:Nat):Int)] w λe w'=>e= .returned (.tuple #[])/\Rd w' p b o c (k+m) l/\aa (λj=>j=p) w w':=by
 have r:=bG h.rd;have i:=x9 p b o l.length c k m w h.rd g h.cap Bb h.small h.Oo;have s:((k+m:Nat):Int)-(k:Int)=(m:Int):=by omega
 have B7:(m:Int)<=1000000:=by have:=h.small;omega
 generalize t:k+m=N at*;go_in;go_wp2_with fail;refine fR i λw1 mj ff=>?_;have d:=h.aw mj ff;have f:=CZ b (o+k) m (c-k) (part l k m) w1 (fD (by omega)) (by omega) (d.part (by omega));have H1:=(aH d ff);go_wp2_with fail;refine f.mono ?_;rintro e u ⟨⟨x,rfl,n⟩,a⟩;have eM:=a.symm;subst eM;have Um:=n.2 q;subst Um;go_wp2_with fail;refine(sQ _).mono ?_;rintro e v ⟨rfl,a⟩;have eM:=a.symm;subst eM;go_wp2
 go_end0
 exact⟨rfl,H1⟩
def Oq (p b o c k m:Nat) (l:List Int) (w:World) (h:Rd w p b o c k l) (g:k+m<=l.length) (Bb:k<c) (q:¬ul (part l k m)):
  Calls prog 186 #[pQ p,iV ((k+m:Nat):Int)] w λe w'=>e= .panicked mV/\aa (λj=>j=p) w w':=by
 have r:=bG h.rd;have i:=x9 p b o l.length c k m w h.rd g h.cap Bb h.small h.Oo;have s:((k+m:Nat):Int)-(k:Int)=(m:Int):=by omega
 have B7:(m:Int)<=1000000:=by have:=h.small;omega
 generalize t:k+m=N at*;go_in;go_wp2_with fail;refine fR i λw1 mj ff=>?_;have d:=h.aw mj ff;have f:=CZ b (o+k) m (c-k) (part l k m) w1 (fD (by omega)) (by omega) (d.part (by omega));go_wp2_with fail;refine f.mono ?_;rintro e u ⟨⟨x,rfl,n⟩,a⟩;have eM:=a.symm;subst eM;have Um:x=false:=by
  cases x with
  |false=>rfl
  |true=>exact absurd (n.1 rfl) q
 subst Um;go_wp2_with fail;refine(Ep _).mono ?_;rintro e v ⟨rfl,a⟩;have eM:=a.symm;subst eM;go_wp2;exact⟨rfl,rfl,(aH d ff).2⟩
def oK (a b:Nat) (e:a<4294967296) (f:b<4294967296):bits .xor .i64 (a:Int) (b:Int)=((a ^^^ b:Nat):Int):=by
 have g:a ^^^ b<2 ^ 32:=Nat.xor_lt_two_pow (by omega) (by omega);have c:(BitVec.ofInt 64 (a:Int)).toNat=a:=by rw [BitVec.ofInt_natCast,BitVec.toNat_ofNat];exact Nat.mod_eq_of_lt (by omega)
 have d:(BitVec.ofInt 64 (b:Int)).toNat=b:=by rw [BitVec.ofInt_natCast,BitVec.toNat_ofNat];exact Nat.mod_eq_of_lt (by omega)
 show IntKind.i64.wrap ((BitVec.ofInt 64 (a:Int) ^^^ BitVec.ofInt 64 (b:Int)).toNat:Int)=_;rw [BitVec.toNat_xor,c,d,IntKind.wrap_i64];omega
def Ot (b o n c:Nat) (l:List Int) (w:World) (j:Bytes l) (F:l.length=n) (H:n<=140737488355328) (q:∀i,i<n->w.cell? ⟨b,o+i,none⟩=some (.int .u8 (l.getD i 0))):
  Calls prog 116 #[.slice (some (aD b o)) n c] w λe w'=>e= .returned (iV ((sumOf l:Nat):Int))/\bW w w':=by
 have t:=yh q;clear q;unfold sumOf;go_in;go_wp2;go_loopw [3,4] (λr i wr=>∃k:Nat,k<=n/\i=iV k/\wr=w/\r=iV ((nf 4294967295 (l.take k):Nat):Int)) (λ_ i _=>n-(intOf i).toNat);case atStart=>exact⟨0,dV _,rfl,rfl,by simp [tp]⟩
 case round=>
  obtain⟨k,E,rfl,rfl,rfl⟩:=hrel;by_cases bq:k<n
  .have cC:(k:Int)<(n:Int):=(by omega);have z:=t.o k bq;have oc:k<l.length:=(by omega);obtain⟨x,p,jI⟩:∃x:Nat,l.getD k 0=(x:Int)/\x<256:=by
    have:=j l[k] (List.getElem_mem oc);refine⟨(l.getD k 0).toNat,?_,?_⟩<;> simp [List.getD,oc] <;> omega
   have pI:Bytes (l.take k):=λy C=>j y (List.mem_of_mem_take C);have f:nf 4294967295 (l.take k)<4294967296:=rZ (by omega) pI;have ie:nf 4294967295 (l.take (k+1))=kV 8 (nf 4294967295 (l.take k) ^^^ x):=by
    rw [List.take_succ_eq_append_getElem oc,yu _ _ pI];congr 2;have:l.getD k 0=l[k]:=(by simp [List.getD,oc]);rw [<-this,p];simp
   have g:=yh ie;rw [p] at z;generalize v:nf 4294967295 (l.take k)=R at*;have A:R ^^^ x<4294967296:=by
    have:R ^^^ x<2 ^ 32:=Nat.xor_lt_two_pow (by omega) (by omega);omega
   have u:bits .xor .i64 (R:Int) (x:Int)=((R ^^^ x:Nat):Int):=oK _ _ f (by omega);clear ie v pI f p;go_wp2;go_loopw [3,5] (λr i wx=>∃m:Nat,m<=8/\i=iV m/\wx=wr/\r=iV ((kV m (R ^^^ x):Nat):Int)) (λ_ i _=>8-(intOf i).toNat);case atStart=>exact⟨0,dV _,rfl,rfl,rfl⟩
   case round=>
    obtain⟨m,G,rfl,rfl,rfl⟩:=hrel;have f:=uS m A;by_cases xQ:m<8
    .have Br:(m:Int)<8:=(by omega);have bF:cb (kV m (R ^^^ x))=kV (m+1) (R ^^^ x):=(by rw [tk];rfl);generalize kV m (R ^^^ x)=S at*;have d:=yh bF;clear bF;have I:(S:Int).tmod 2=((S%2:Nat):Int):=(by rw [Int.tmod_eq_emod_of_nonneg (by omega)];omega);have J:(S:Int).tdiv 2=((S / 2:Nat):Int):=(by rw [Int.tdiv_eq_ediv_of_nonneg (by omega)];omega);rcases Nat.mod_two_eq_zero_or_one S with a|a
     .have D:(((S%2:Nat):Int) == 1)=false:=(by rw [a];rfl);have Zb:Yh (cb S=S / 2):=(by show cb S=S / 2;simp [cb,a]);clear a;go_wp2;go_roundw;case rel=>exact⟨m+1,by omega,by go_num,trivial,by rw [<-d.o,Zb.o];first|(rw [Int.natCast_ediv];rfl)|rw [s.out]⟩
      case measure=>simp [intOf];omega
     .have D:(((S%2:Nat):Int) == 1)=true:=(by rw [a];rfl);have s:Yh (bits .xor .i64 ((S:Int) / 2) 2197175160=((S / 2 ^^^ 2197175160:Nat):Int)):=oK (S / 2) 2197175160 (by omega) (by omega);have Zb:Yh (cb S=S / 2 ^^^ 2197175160):=(by show cb S=S / 2 ^^^ 2197175160;simp [cb,a]);clear a;go_wp2;go_roundw;case rel=>exact⟨m+1,by omega,by go_num,trivial,by rw [<-d.o,Zb.o];first|(rw [Int.natCast_ediv];rfl)|rw [s.out]⟩
      case measure=>simp [intOf];omega
    .have Br:¬(m:Int)<8:=(by omega);have XA:m=8:=(by omega);subst XA;go_wp2;go_roundw;case rel=>exact⟨k+1,by omega,by go_num,trivial,by rw [g.o]⟩
     case measure=>simp [intOf];omega
  .have cC:¬(k:Int)<(n:Int):=(by omega);have Uk:l.take k=l:=nr (by omega);have f:nf 4294967295 l<4294967296:=rZ (by omega) j;have u:bits .xor .i64 ((nf 4294967295 l:Nat):Int) 4294967295=((nf 4294967295 l ^^^ 4294967295:Nat):Int):=oK (nf 4294967295 l) 4294967295 f (by omega);rw [Uk] at*;go_wp2;go_ret;exact⟨rfl,(yh (bi wr.heap.size wr)).out⟩
def KE (a:Option Addr) (c:Nat) (w:World):
  Calls prog 116 #[.slice a 0 c] w λe w'=>e= .returned (iV ((sumOf []:Nat):Int))/\bW w w':=by
 have d:bits .xor .i64 4294967295 4294967295=0:=by decide
 have b:sumOf []=0:=by decide
 rw [b];go_in;go_wp2;refine wp_loop_rounds 1 ?_;rw [rounds_succ];go_wp2;go_ret;exact⟨rfl,bi w.heap.size w⟩
def Ou (a:Option Addr) (n c:Nat) (l:List Int) (w:World) (f:Bytes l) (g:n<=140737488355328) (d:Src w a n l):
  Calls prog 116 #[.slice a n c] w λe w'=>e= .returned (iV ((sumOf l:Nat):Int))/\bW w w':=by
 by_cases h0:n=0
 .subst h0;have:l= []:=List.eq_nil_of_length_eq_zero d.1;subst this;exact KE a c w
 .cases a with
  |none=>exact absurd (d.2.1 rfl) h0
  |some x=>
   obtain⟨b,o,rfl,k⟩:=d.spot (by omega);exact Ot b o n c l w f d.1 g k
def GX (x:Int) (h:w.heap[g]? =some (.cells (bs l).toArray 5 (0,0))):
    (w.setCell ⟨g,i,none⟩ (.int .u8 x)).heap[g]? =some (.cells (bs (l.set i x)).toArray 5 (0,0)):=by
 rw [heap_setCell_same _ _ _ _ _ _ h];congr 2;apply Array.ext';simp [bs,List.map_set]
def Full (w:World) (g:Nat) (l:List Int):Prop:=w.heap[g]? =some (.cells (bs l).toArray 5 (0,0))
def rh (g N c:Nat) (A X C:List Int) (a n v:Nat) (w:World) (h:Full w g (A ++ (X ++ C))) (t:A.length=a) (G:X.length=n) (b:(A ++ (X ++ C)).length=N) (E:N<=1000000) (x:v<=9223372036854775807):
  Calls prog 115 #[.slice (some (aD g 0)) N c,iV (a:Int),iV (n:Int),iV (v:Int)] w λe w'=>e= .returned (.tuple #[])/\Full w' g (A ++ (bB n v ++ C))/\aa (λj=>j=g) w w':=by
 have q:a+n<=N:=by simp at b;omega
 go_in;go_wp2;go_loopw [3,8] (λr i wr=>∃k:Nat,k<=n/\i=iV k/\r=iV ((v / 256 ^ k:Nat):Int)/\Full wr g (A ++ ((bB k v ++ X.drop k) ++ C))/\aa (λj=>j=g) w wr) (λ_ i _=>n-(intOf i).toNat);case atStart=>exact⟨0,dV _,rfl,by simp,by simpa [bB] using h,aa.refl _ _⟩
 case round=>
  obtain⟨k,D,rfl,rfl,aV,Bd⟩:=hrel;by_cases bq:k<n
  .have cC:(k:Int)<(n:Int):=(by omega);have s:v / 256 ^ k<=9223372036854775807:=j3 (Nat.div_le_self _ _) x;have m:v / 256 ^ (k+1)=v / 256 ^ k / 256:=(by rw [Nat.div_div_eq_div_mul,Nat.pow_succ]);have d:(A ++ ((bB k v ++ X.drop k) ++ C)).length=N:=(by rw [<-b];simp [aK];omega);obtain⟨u0,y⟩:∃u,wr.cell? ⟨g,a+k,none⟩=some u:=⟨_,aj aV (j:=a+k) (u:=(bs (A ++ ((bB k v ++ X.drop k) ++ C)))[a+k]'(by simp only [bs,List.length_map];omega)) (by simp [bs])⟩;have z:=ae aV (a+k);have pd:=GX (i:=a+k) ((v / 256 ^ k%256:Nat):Int) aV;have o:(A ++ ((bB k v ++ X.drop k) ++ C)).set (a+k) ((v / 256 ^ k%256:Nat):Int)=A ++ ((bB (k+1) v ++ X.drop (k+1)) ++ C):=by
    rw [List.set_append_right _ _ (by omega),t,show a+k-a=k by omega,List.append_assoc,List.set_append_right _ _ (by rw [aK];omega),aK,Nat.sub_self,vC];rw [List.drop_eq_getElem_cons (show k<X.length by omega),List.cons_append,List.set_cons_zero];simp
   rw [o] at pd;have l:=(Bd.trans (aa.setCell (F:=λj=>j=g) (p:=⟨g,a+k,none⟩) wr rfl (.int .u8 ((v / 256 ^ k%256:Nat):Int))) (λ_ h=> .inl h));generalize v / 256 ^ k=Q at*;have H:(Q:Int).tmod 256=((Q%256:Nat):Int):=(by rw [Int.tmod_eq_emod_of_nonneg (by omega)];omega);have I:(Q:Int).tdiv 256=((Q / 256:Nat):Int):=(by rw [Int.tdiv_eq_ediv_of_nonneg (by omega)];omega);go_wp2;go_roundw;case rel=>exact⟨k+1,by omega,by go_num,by rw [m];simp,pd,l⟩
   case measure=>simp [intOf];omega
  .have cC:¬(k:Int)<(n:Int):=(by omega);have Uk:k=n:=(by omega);have f:(Full wr g (A ++ (bB n v ++ C))/\aa (λj=>j=g) w wr):=by
    refine⟨?_,Bd⟩;rw [Uk,List.drop_of_length_le (by omega),List.append_nil] at aV;exact aV
   go_wp2
   go_end0
   exact⟨rfl,f⟩
def sR (l q m r n c d:Nat) (b a:List Int) (w:World) (cq:b.length=n) (fH:a.length=n) (z:n<=1000000) (u:∀i,i<n->w.cell? ⟨l,q+i,none⟩=some (.int .u8 (b.getD i 0))) (v:∀i,i<n->w.cell? ⟨m,r+i,none⟩=some (.int .u8 (a.getD i 0))):
  Calls prog 131 #[.slice (some (aD l q)) n c, .slice (some (aD m r)) n d] w λe w'=>e= .returned (.bool (decide (b=a)))/\bW w w':=by
 go_in;go_wp2;go_loopw [5] (λi wr=>∃k:Nat,k<=n/\i=iV k/\bW w wr/\∀j,j<k->b.getD j 0=a.getD j 0) (λi _=>n-(intOf i).toNat);case atStart=>exact⟨0,dV _,rfl,bi _ _,λj x=>by omega⟩
 case round=>
  obtain⟨k,y,rfl,f,lW⟩:=hrel;have adV:=yh lW;by_cases bq:k<n
  .have p:=cell_later f ((yh u).out k bq);have t:=cell_later f ((yh v).out k bq);have cC:(k:Int)<(n:Int):=(by omega);by_cases g:b.getD k 0=a.getD k 0
   .have s:=yh g;rw [g] at p;have zT:(a.getD k 0 != a.getD k 0)=false:=(by simp);generalize a.getD k 0=X at p t zT;go_wp2;go_quiet (fail);go_wp2;go_roundw;case rel=>
     refine⟨k+1,by omega,by go_num,below_drewN f _,λj x=>?_⟩;by_cases e:j=k
     .rw [e];exact s.o
     .exact adV.o j (by omega)
    case measure=>simp [intOf];omega
   .have hd:decide (b=a)=false:=by
     rw [decide_eq_false_iff_not];intro e;exact g (by rw [e])
    have dM:(b.getD k 0 != a.getD k 0)=true:=(by rw [gA];exact g);generalize b.getD k 0=X at*;generalize a.getD k 0=Y at*;go_wp2;go_quiet (fail);go_wp2;go_ret;exact⟨by rw [(yh hd).out];rfl,below_drewN f _⟩
  .have cC:¬(k:Int)<(n:Int):=(by omega);have hd:Yh (decide (b=a)=true):=by
    show decide (b=a)=true;rw [decide_eq_true_iff];apply List.ext_getElem (by omega);intro i Xs Fd;have:=adV.o i (by omega);simpa [List.getD,Xs,Fd] using this
   go_wp2;go_ret;exact⟨by rw [hd.out];rfl,f⟩
section
def fI (w:World) (X:Nat->Prop) (k t:Nat) (G:SG) (tv:Value) (r:Int×TG) (e:Ending) (w':World):Prop:=
 e= .returned (iV r.1)/\(∃tv' KF,nY w' (more X w w') k t G r.2 tv' KF/\(tv'.ownBlock=tv.ownBlock\/∀g,tv'.ownBlock=some g->w.heap.size<=g))/\aa (λj=>j=t\/tv.ownBlock=some j) w w'
section
variable {w w' w1 w2:World} {F X:Nat->Prop} {r s k kl t hm:Nat} {S:DS} {G:SG} {T:TG} {v pv nv tv:Value} {ps us:List (Nat×List Int)} {xs:List Value}
def nY.mono {Y:Nat->Prop} (h:nY w X k t G T tv us) (a:∀g,X g->Y g):nY w Y k t G T tv us:=⟨h.tx,a _ h.xt,h.pl.mono a,h.nd,h.pu,h.kb,h.Eg⟩
def fI.same (b:nY w X k t G T tv us) (a:bW w w') (x:Int):fI w X k t G tv (x,T) (.returned (iV x)) w':=
   ⟨rfl,⟨tv,us,(b.later a).mono (λ_ h=> .inl h), .inl rfl⟩,aa.ah _ a⟩
def fI.spoilt (c:nY w X k t G T tv us) (a:bW w w1) (x:Int):fI w X k t G tv (x,{T with bad:=x}) (.returned (iV x)) (w1.setCell ⟨t,3,none⟩ (.int .i64 x)):=by
 have h:=c.later a;have b:=aa.setCell (F:=λj=>j=t) w1 (p:=(aD t 3)) rfl (iV x);refine⟨rfl,⟨tv,us,⟨h.tx.bad x, .inl h.xt,(h.pl.other h.tx (by decide) (by decide) b).mono (λ_ h=> .inl h),h.nd,h.pu,h.kb,h.Eg⟩, .inl rfl⟩,(aa.ah _ a).trans b (λ_ h=> .inl (.inl h))⟩
def ni.puts (h:ni w t k tv T) (v:Value):ni (w.setCell ⟨t,1,none⟩ v) t k v T:=(heap_setCell_same _ _ 1 _ _ _ h).trans (by simp)
def fI.set (C:nY w X k t G T tv us) (s:T.ended=false) (m:bW w w1) {b:Nat} (d:i<us.length) (f:us[i].1=b) (u:w.heap.size<=g) (q:ay w1 5 g 512 (bs l)) (v:l.length=512/\Bytes l) (r:tv= .slice (some (aD gp 0)) n c):
  fI w X k t G tv (0,{T with puts:=CM.put T.puts b l}) (.returned (iV 0)) (w1.setCell ⟨gp,i*2+1,none⟩ (.slice (some ⟨g,0,none⟩) 512 512)):=by
 have h:=C.later m;obtain⟨xs,A⟩:=h.pl;have uV:=(A.mono (Y:=more X w w1) (λ_ h=> .inl h)).store d f (.inr ⟨u,q.lt⟩) q v r;have eE:(w1.setCell ⟨gp,i*2+1,none⟩ (.slice (some ⟨g,0,none⟩) 512 512)).heap.size=w1.heap.size:=by simp [World.setCell]
 have z:more X w (w1.setCell ⟨gp,i*2+1,none⟩ (.slice (some ⟨g,0,none⟩) 512 512))=more X w w1:=by unfold more;rw [eE]
 have aA:tv.ownBlock=some gp:=by rw [r];rfl
 have o:=aa.setCell (F:=λj=>tv.ownBlock=some j) w1 (p:=⟨gp,i*2+1,none⟩) aA (.slice (some (aD g 0)) 512 512);refine⟨rfl,⟨tv,us.set i (b,l),?_, .inl rfl⟩,(aa.ah _ m).trans o (λ_ h=> .inl (.inr h))⟩;rw [z];refine⟨h.tx.aw o (λe=>h.pl.ne e h.tx (by decide) rfl), .inl h.xt,⟨_,uV⟩,by rw [Se d f];exact h.nd,λ_=>?_,λx a=>?_,by rw [List.length_set];exact h.Eg⟩
 .show CM.put T.puts b l=_;rw [Sd d f h.nd,h.pu s]
 .rcases List.mem_or_eq_of_mem_set a with a|a
  .exact h.kb x a
  .have:=h.kb _ (List.getElem_mem d);rw [a];show b<G.y.blocks;omega
def fI.push (r:nY w X k t G T tv us) (s:T.ended=false) (d:bW w w1) {o:Obj} {b:Nat} (lx:b<G.y.blocks) (z:PL w1 X tv us xs) (u:w.heap.size<=g) (n:ay w1 5 g 512 (bs l)) (v:l.length=512/\Bytes l) (i9:jB us b=none) (UE:us.length<16)
    (aA:w2.ownsRow 0 166 2 (.slice (some (aD g2 0)) (us.length+1) cz) (us.length+1) (xs ++ [iV (b:Int), .slice (some (aD g 0)) 512 512]))
    (aR:(w1.alloc o).grownBy w2 tv.ownBlock) (is:tv.ownBlock=some g2\/g2=w1.heap.size+1):
  w2.heap[t]? =w.heap[t]?/\fI w X k t G tv (0,{T with puts:=CM.put T.puts b l}) (.returned (iV 0)) (w2.setCell ⟨t,1,none⟩ (.slice (some ⟨g2,0,none⟩) (us.length+1) cz)):=by
 have h:=r.later d;have D:=d.size;obtain⟨uV,aY⟩:=PL.push (b:=b) (z.mono (Y:=more X w w1) (λ_ h=> .inl h)) (.inr ⟨u,n.lt⟩) n v aA aR is;have eu:=aY.size;have Ah:=h.tx.aw aY (λe=>h.pl.ne e h.tx (by decide) rfl);have m:=aa.setCell (F:=λj=>j=t) w2 (p:=(aD t 1)) rfl (.slice (some (aD g2 0)) (us.length+1) cz);have eE:(w2.setCell ⟨t,1,none⟩ (.slice (some ⟨g2,0,none⟩) (us.length+1) cz)).heap.size=w2.heap.size:=by simp [World.setCell]
 refine⟨(aY.block t h.tx.lt (λe=>h.pl.ne e h.tx (by decide) rfl)).trans (d.block t r.tx.lt),rfl,⟨_,us ++ [(b,l)],⟨Ah.puts _, .inl h.xt,(Pl.other ⟨_,uV⟩ Ah (by decide) (by decide) m).mono (λj a=>?_),?_,λ_=>?_,λx c=>?_,by rw [ed];simp;omega⟩,?_⟩,((aa.ah _ d).trans aY (λ_ h=> .inl (.inr h))).trans m (λ_ h=> .inl (.inl h))⟩
 .rcases a with (a|a)|a
  .exact .inl a
  .exact .inr ⟨a.1,by rw [eE];omega⟩
  .exact .inr ⟨by omega,by rw [eE];exact a.2⟩
 .rw [List.map_append,List.nodup_append];refine⟨h.nd,by simp,λx c y C e=>?_⟩;obtain⟨q,A,rfl⟩:=List.mem_map.1 c;have f:y=b:=by simpa using C
  subst f;obtain⟨j,a,rfl⟩:=List.mem_iff_getElem.1 A;have:=wX a e;rw [i9] at this;cases this
 .show CM.put T.puts b l=_;rw [On,h.pu s]
 .rcases List.mem_append.1 c with c|c
  .exact h.kb x c
  .rw [List.mem_singleton.1 c];exact lx
 .rcases is with i|i
  .exact .inl i.symm
  .refine .inr (λj a=>?_);have e:j=g2:=(by simpa [Value.ownBlock] using a.symm);omega
end
end
section
section
variable {w w' w1 w2:World} {F X:Nat->Prop} {r s k kl t hm:Nat} {S:DS} {G:SG} {T:TG} {v pv nv tv:Value} {ps us:List (Nat×List Int)} {xs:List Value}
def Pl.frz (h:Pl w X v ps) (a:v.ownBlock=some g) (j:Nat):w.frozen? (aD g j)=false:=by
 obtain⟨xs,h⟩:=h;obtain⟨_,⟨rfl,_⟩|⟨d,b,cur,rfl,_,c,_⟩⟩:=h.own
 .simp [Value.ownBlock] at a
 .simp [Value.ownBlock] at a;subst a;exact ae c j
set_option maxRecDepth 100000 in
def Sg (hd:aC w F r s S) (h:iL w F X r s S k kl G pv ps hm nv) (u:nY w X k t G T tv us) (b:Int) (a:Option Addr) (x c:Nat) (d:List Int) (K:Src w a x d) (hx:x<=140737488355328) (xE:Bytes d) (aU:S.puts.length<=4000000000000) (V9:ps.length<=4000000000000):
  Calls prog 79 #[pQ t,iV b, .slice a x c] w λe w'=>fI w X k t G tv (T.put G S b d) e w':=by
 have z:=kq hd h u.tx;have IV:=K.1;obtain⟨R,n⟩:=bQ (T.put G S b d);rw [<-n];unfold TG.put at n;by_cases q:T.state G S=0
 .have dq:(T.state G S != 0)=false:=by rw [q];rfl
  by_cases q1:b<0
  .have A:T.refusal G S b=11:=(by unfold TG.refusal;rw [aB (λh=>h q),aG (.inl q1)]);rw [A,aG (by decide)] at n;obtain⟨C,f⟩:=bU n u;clear A n q;generalize T.state G S=E at*;clear h u hd K;go_in;go_wp2_with fail;refine bM z λw1 ar=>?_;have M:=yh ar;clear z ar;go_wp2;go_ret;rw [C.o];exact fI.same f.o M.o 11
  .by_cases q2:(G.y.blocks:Int)<=b
   .have A:T.refusal G S b=11:=(by unfold TG.refusal;rw [aB (λh=>h q),aG (.inr q2)]);rw [A,aG (by decide)] at n;obtain⟨C,f,P⟩:=kF n u h.st;clear A n q;generalize T.state G S=E at*;clear h u hd K;go_in;go_wp2_with fail;refine bM z λw1 ar=>?_;have c0:=(f.o.tx.later ar).c0;have c4:=(P.o.later ar).c4;have M:=yh ar;clear z ar;go_wp2;go_ret;rw [C.o];exact fI.same f.o M.o 11
   .have A:T.refusal G S b=0:=(by unfold TG.refusal;rw [aB (λh=>h q),aB (λh=>h.elim q1 q2)]);rw [A,aB (λh=>h rfl)] at n;obtain⟨r1,r2,_,_,_⟩:=iW A;obtain⟨b,rfl⟩:∃b':Nat,b=(b':Int):=⟨b.toNat,by omega⟩;rw [Int.toNat_natCast] at n;have hb:b<G.y.blocks:=(by omega);by_cases q3:x=512
    .subst q3;rw [aB (λh=>h IV)] at n;have hG:=λ(w1:World) (ar:bW w w1)=>Ag (hd.later ar) (h.later ar) (u.later ar) (b:Int) aU V9;rw [A,Int.toNat_natCast] at hG;have mR:(T.jY G S b).length=512:=by
      unfold TG.jY;rw [u.pu r2,gZ];cases hf:jB us b with
      |none=>exact iL.aad hd h hb
      |some l=>exact(u.pl.len _ (E6 hf)).1
     obtain⟨ab,ao,rfl⟩:=cX K (by omega);have X9:=λ(H:World) (bd:bW w H) (g:Nat) (O:ay H 5 g 512 (bs (T.jY G S b)))=>sR g 0 ab ao 512 512 c (T.jY G S b) d H mR IV (by omega) (λi hi=>by have:=O.src.2.2 _ rfl i (by rw [mR];exact hi);rwa [aN] at this) (λi hi=>by have:=(K.later bd).2.2 _ rfl i hi;rwa [aN] at this);have Mo:=λ(H:World) (bd:bW w H)=>lP (some (aD ab ao)) 512 c d H (by omega) (K.later bd);obtain⟨f,P,HG,W,Y,sH⟩:=jE (yh u) (yh h.st) (yh hG) (yh X9) (yh Mo) (u.pu r2);have adW:CM.get T.puts b=jB us b:=(by rw [sH,gZ]);have adX:T.puts.length=us.length:=(by rw [sH,vG u.nd]);rw [adW,adX] at n;clear A X9 Mo hG q sH adW adX r1;generalize T.state G S=E at*;clear h u hd K;by_cases U:d=T.jY G S b
     .have dd:decide (T.jY G S b=d)=true:=(by rw [<-U];simp);rw [aG U] at n;have C:=yh n;clear n U;go_in;go_wp2_with fail;refine bM z λw1 ar=>?_;have c0:=(f.o.tx.later ar).c0;have c4:=(P.o.later ar).c4;have hg:=HG.o w1 ar;have cQ:=yh ar;clear z ar;go_wp2_with fail;refine hg.mono ?_;rintro e H ⟨N,bd⟩;unfold rg at N;rw [aB (λh=>h rfl)] at N;obtain⟨g,rfl,fZ,O⟩:=N;have KG:=cQ.o.trans (bd.mono cQ.o.size);have lz:=W.o H KG g O;rw [dd] at lz;have Sh:=yh KG;clear hg bd O KG;go_wp2_with fail;refine bM lz λw3 bF=>?_;have gd:=yh (Sh.o.trans (bF.mono Sh.o.size));clear lz bF;go_wp2;go_ret;rw [C.o];exact fI.same f.o gd.o 0
     .have dd:decide (T.jY G S b=d)=false:=(by rw [decide_eq_false_iff_not];exact λe=>U e.symm);rw [aB U] at n;have C:=yh n;clear n U;go_in;go_wp2_with fail;refine bM z λw1 ar=>?_;have c0:=(f.o.tx.later ar).c0;have c4:=(P.o.later ar).c4;have hg:=HG.o w1 ar;have cQ:=yh ar;clear z ar;go_wp2_with fail;refine hg.mono ?_;rintro e H ⟨N,bd⟩;unfold rg at N;rw [aB (λh=>h rfl)] at N;obtain⟨g,rfl,fZ,O⟩:=N;have KG:=cQ.o.trans (bd.mono cQ.o.size);have lz:=W.o H KG g O;rw [dd] at lz;have Sh:=yh KG;clear hg bd O KG;go_wp2_with fail;refine bM lz λw3 bF=>?_;have gd:=yh (Sh.o.trans (bF.mono Sh.o.size));clear lz bF;obtain⟨ua,uc,htv,lA⟩:=(f.o.later gd.o).pl.form;subst htv;have c1:=(f.o.tx.later gd.o).c1;have adU:=f.o.Eg;have adY:=yh lA;clear lA c0 c4;go_wp2;go_loopw [10] (λi wr=>∃j:Nat,j<=us.length/\i=iV (j:Int)/\wr=w3/\∀m (hm:m<us.length),m<j->us[m].1≠b) (λi _=>us.length-(intOf i).toNat);case atStart=>exact⟨0,dV _,rfl,rfl,λm hm h=>by omega⟩
      case round=>
       obtain⟨j,hj,rfl,rfl,i9⟩:=hrel;have nX:=yh i9;clear i9;by_cases qj:j<us.length
       .have qj':(j:Int)<(us.length:Int):=(by omega);obtain⟨J,rfl,hp⟩:=adY.o (by omega);obtain⟨gj,cj,p1,p2,_,_⟩:=hp j qj;clear hp;by_cases Q:us[j].1=b
        .rw [Q] at p1;have nQ:=f.o.tx.later gd.o;obtain⟨uQ,adZ,Ai,xz,HU⟩:=eK ((f.o.pl.later gd.o).ne (g:=J) rfl nQ (by decide)) ((f.o.pl.later gd.o).rlt J rfl) nQ.lt (yh (wX qj Q)) (yh Q);clear nQ Q;go_wp2_with fail;go_region_held3 (λw'=>w'.cell? (aD t 1)=some (.slice (some (aD J 0)) us.length uc))
          (first|exact c1|exact k1|exact k5)
            ((go_at_call 91;refine(yh (Y.o wr.drew (ai gd.o))).out.mono ?_;rintro e D ⟨g4,rfl,Gm,wL,fw⟩;have nR:bW wr D:=(ai (bi wr.heap.size wr)).trans fw;have k1:=iF nR Ai c1;have ks:=iF nR adZ p2;have fs:=(nR.frozen (p:=⟨J,j*2+1,none⟩) adZ).trans ((f.o.pl.later gd.o).frz (g:=J) rfl (j*2+1));have k5:(D.setCell ⟨J,j*2+1,none⟩ (.slice (some ⟨g4,0,none⟩) 512 512)).cell? (aD t 1)=some (.slice (some (aD J 0)) us.length uc):=(dw (aa.setCell (F:=λj=>j=J) D (p:=⟨J,j*2+1,none⟩) rfl _) (λe=>uQ e.symm) k1)))
         all_goals
          obtain⟨jU,VG⟩:=bU (gd.o.trans (nR.mono gd.o.size)) wL;clear fw nR wL k1 ks fs k5;go_wp2;go_ret;rw [C.o,aB (λh=>by rw [xz.o] at h;cases h.1)];exact fI.set f.o r2 jU.o qj HU.o (j3 gd.o.size Gm) VG.o ⟨IV,xE⟩ rfl
        .have dM:(((us[j].1:Nat):Int) == (b:Int))=false:=(by rw [fJ];omega);have Kc:∀m (hm:m<us.length),m<j+1->us[m].1≠b:=λm hm h=>by
          by_cases e:m=j
          .subst e;exact Q
          .exact nX.o m hm (by omega)
         have ZE:=yh Kc;clear Kc Q;go_wp2;go_roundw;case rel=>exact⟨j+1,by omega,by go_num,trivial,ZE.o⟩
         case measure=>simp [intOf];omega
       .have qj':¬(j:Int)<(us.length:Int):=(by omega);have Ya:=yh (IM (us:=us) (b:=b) (λm hm=>nX.o m hm (by omega)));by_cases L:us.length=16
        .have d16:((us.length:Int) == 16)=true:=(by rw [beq_iff_eq];omega);have H16:=yh L;have nQ:=f.o.tx.later gd.o;have c3:=nQ.c3;have f3:=nQ.fz 3;clear nQ L;go_wp2;go_ret;rw [C.o,Ya.out,aG ⟨rfl,H16.o⟩];exact fI.spoilt f.o gd.o 50
        .have d16:((us.length:Int) == 16)=false:=(by rw [fJ];omega);have Yb:¬((jB us b).isSome=false/\us.length=16):=λh=>L h.2;have ai9:=yh Yb;have UE:us.length<16:=(by omega);obtain⟨xs,NE⟩:=f.o.pl.later gd.o;obtain⟨i0,rH,gB,dC,eu⟩:=info_parts qd;have nQ:=f.o.tx.later gd.o;have Ai:=nQ.lt;have Mo:Calls prog 91 #[.slice (some (aD ab ao)) 512 c] wr.drew λe w'=>∃v,e= .returned v/\TwR wr d v w':=
            (Y.o wr.drew (ai gd.o)).mono (by rintro e w' ⟨g,rfl,z,h2,Z⟩;exact⟨_,rfl,g,rfl,z,h2,⟨Z.os,Z.tape,Z.output,Z.size,Z.block⟩⟩)
         have db:∀wx:World,wx.heap[t]? =wr.heap[t]?->wx.cell? (aD t 1)=some (.slice ua us.length uc):=λwx e=>bG (e.trans nQ);have ad0:∀wx:World,wx.heap[t]? =wr.heap[t]?->wx.frozen? (aD t 1)=false:=λwx e=>ae (e.trans nQ) 1;obtain⟨Htw,p9,Hfz,I⟩:=Bh Mo db ad0 NE;clear Mo db ad0 NE nQ L Yb;go_wp2_with fail
         go_region_law
          (first
           |(refine vo (by rfl) 91 #[.slice (some (aD ab ao)) 512 c] (by simp [go_sem]) (TwR wr d) Htw.o ?_;rintro _ D ⟨g4,rfl,Gm,wL,fw⟩;have mj:D.heap[t]? =wr.heap[t]? :=fw.block t Ai;have k1:=p9.o D mj;have k2:=λo=>p9.o (D.alloc o) ((Below.heap_alloc D o t (i5 Ai fw.size)).trans mj))
           |(refine step_append_lies _ (by rfl) _ _ _ (by rfl) 0 166 i0 _ 2 32 underlying126 rH gB dC eu rfl (by omega) (.slice ua us.length uc) us.length xs (by rfl) (aF I.o.own (λg e=>(Below.heap_alloc D _ _ (i5 (qf I.o.own e) fw.size)).trans (fw.block g (qf I.o.own e))))
               (aD D.heap.size 0) 1 1 [iV (b:Int), .slice (some (aD g4 0)) 512 512] (by rfl) (by rfl) (World.news_of_block (cs:= #[iV (b:Int), .slice (some (aD g4 0)) 512 512]) (t:=166) (fr:=(0,0)) (heap_alloc_new D _)) (by simp [Value.oneCell']) (by omega) (by unfold maxLen;omega) (by omega) (dV _) (D.heap.size+1) (by simp) ?_;intro g2 cz w5 fN j6 uW tz;obtain⟨Fe,jH⟩:=fI.push f.o r2 (gd.o.trans (fw.mono gd.o.size)) hb (I.o.aw (aa.ah (λ_=>False) fw) (λ_ _ h=>h) (λ_ _ _ _ _ h=>h)) (j3 gd.o.size Gm) wL ⟨IV,xE⟩ Ya.out UE fN j6 uW;have aag:=Fe.trans (gd.o.block t f.o.tx.lt).symm;have k3:=p9.o w5 aag;have f3:=Hfz.o w5 aag))
         all_goals
          have mU:=yh jH;clear jH wL fw fN j6 uW tz mj Fe aag k1 k2 k3 f3;go_wp2;go_ret;rw [C.o,aB ai9.o];exact mU.o
    .have NT:¬d.length=512:=(by rw [IV];exact q3);rw [aG NT] at n;have dx:((x:Int) != 512)=true:=(by rw [gA];omega);obtain⟨C,f,P⟩:=kF n u h.st;clear A n q r1 r2;generalize T.state G S=E at*;clear h u hd K;go_in;go_wp2_with fail;refine bM z λw1 ar=>?_;have c0:=(f.o.tx.later ar).c0;have c4:=(P.o.later ar).c4;have M:=yh ar;clear z ar;go_wp2;go_ret;rw [C.o];exact fI.same f.o M.o 2
 .have dq:(T.state G S != 0)=true:=by rw [gA];exact q
  have A:T.refusal G S b=T.state G S:=by unfold TG.refusal;rw [aG q]
  rw [A,aG q] at n;obtain⟨C,f⟩:=bU n u;clear A n q;generalize T.state G S=E at*;clear h u hd K;go_in;go_wp2_with fail;refine bM z λw1 ar=>?_;have M:=yh ar;clear z ar;go_wp2;go_ret;rw [C.o];exact fI.same f.o M.o _
end
end
section
section
variable {w w':World} {F G:Nat->Prop} {r s k:Nat} {S:DS} {L:LG}
def aC.join {w:World} (h:aC w2 (Go.Proofs.YtcpdggdfihjhoabGreat.more (Go.Proofs.YtcpdggdfihjhoabGreat.more F w w1) w1 w2) r s S) (c:∀k,F k->k<w.heap.size) (a:w.heap.size<=w1.heap.size) (b:w1.heap.size<=w2.heap.size):aC w2 (Go.Proofs.YtcpdggdfihjhoabGreat.more F w w2) r s S:=
 h.mono (vi a b) (cJ c (by omega))
def aC.from {w:World} (h:aC w2 (Go.Proofs.YtcpdggdfihjhoabGreat.more F w1 w2) r s S) (b:∀k,F k->k<w.heap.size) (c:w.heap.size<=w1.heap.size) (d:w1.heap.size<=w2.heap.size):aC w2 (Go.Proofs.YtcpdggdfihjhoabGreat.more F w w2) r s S:=
 h.mono (λk a=>by
  rcases a with a|a
  .exact .inl a
  .exact .inr ⟨by omega,a.2⟩) (cJ b (by omega))
def Wo {f:Nat} {num:Int} (h0:(aP (S.now f) (S.now (f+1)) num []).2.2=0) (b:f+1<s):
  cZ S s f num=if (S.wr s ((f:Int)+((aP (S.now f) (S.now (f+1)) num []).1:Int)) 512 (aP (S.now f) (S.now (f+1)) num []).2.1).1≠0 then (3,(S.wr s ((f:Int)+((aP (S.now f) (S.now (f+1)) num []).1:Int)) 512 (aP (S.now f) (S.now (f+1)) num []).2.1).2)
   else (S.wr s ((f:Int)+((aP (S.now f) (S.now (f+1)) num []).1:Int)) 512 (aP (S.now f) (S.now (f+1)) num []).2.1).2.fl s:=by
 have mR:=fU (S.now f) (S.now (f+1)) num [];unfold cZ;by_cases a:S.fuse=0
 .rw [aG a];unfold DS.wr;simp only [aG a];rw [aG (by decide)]
 .rw [aB a,aB (by omega)];have e:(S.wr s ((f:Int)+((aP (S.now f) (S.now (f+1)) num []).1:Int)) 512 (aP (S.now f) (S.now (f+1)) num []).2.1).1=0:=by
   unfold DS.wr;rw [aB a,aB (by omega),aB (by omega)]
  rw [aB (by omega),aB (by omega)]
def oL (h:aC w F r s S) (f E T:Nat) (hE:E<=1073741824) (hT:T<=1073741824) (aU:S.puts.length+2<=4000000000000) (J:f+1<s) (dD:S.fL) (h0:(aP (S.now f) (S.now (f+1)) ((E:Int)*4294967296+T) []).2.2=0):
  Calls prog 114 #[pQ r,iV (f:Int),iV (E:Int),iV (T:Int)] w λe w'=>e= .returned (iV (cZ S s f ((E:Int)*4294967296+T)).1)/\aC w' (more F w w') r s (cZ S s f ((E:Int)*4294967296+T)).2/\aa F w w':=by
 have q:=jM h f (by omega) (by omega);have n:=jM h (f+1) J (by omega);rw [show ((f+1:Nat):Int)=(f:Int)+1 by omega] at n;have du:=h.ok;have jk:=bu du f (by omega);have mO:=bu du (f+1) J;have mR:=fU (S.now f) (S.now (f+1)) ((E:Int)*4294967296+T) [];have Fj:=kN (S.now f) (S.now (f+1)) ((E:Int)*4294967296+T) [] h0;rw [Wo h0 J];have M:=yh (λP W k Q X m w1 c d=>JQ P W k (S.now f) Q X m (S.now (f+1)) none 0 0 [] ((E:Int)*4294967296+T) w1 c d (dD.now f) (dD.now (f+1)) ⟨rfl,λ_=>rfl,λx K=>by cases K⟩ (λx K=>by cases K) (by omega));have Ml:=du.hi;have t:=yh h;have Wp:∀(l:List Int),(S.wr s ((f:Int)+((aP (S.now f) (S.now (f+1)) ((E:Int)*4294967296+T) []).1:Int)) 512 l).2.puts.length<=S.puts.length+1:=λl=>jh _ _ _ _ _;generalize U:aP (S.now f) (S.now (f+1)) ((E:Int)*4294967296+T) []=Y at*;clear h U dD;obtain⟨Z,I⟩:∃Z,Z=S.wr s ((f:Int)+(Y.1:Int)) 512 Y.2.1:=⟨_,rfl⟩;have L:=Wp Y.2.1;rw [<-I] at L⊢;obtain⟨N,iK⟩:=bU I t.o.lt;clear I Wp;by_cases p:Z.1=0
 .rw [aB (by omega)];have R:(Z.1 == 0)=true:=by rw [beq_iff_eq];exact p
  clear p;go_in;go_wp2_with fail;refine q.mono ?_;rintro e w1 ⟨A,k,rfl,D,mj,bO⟩;have jO:=bO.symm;clear bO;subst jO;clear q;go_wp2_with fail;refine n.mono ?_;rintro e w2 ⟨C,m,rfl,H,fy,dE⟩;have KH:=dE.symm;clear dE;subst KH;have c:=mj.src;have d:=fy.src;rw [jk] at c;rw [mO] at d;have g:=M.o (some (aD A 0)) 512 k (some (aD C 0)) 512 m _ c d;rw [h0] at g;clear n c d mj fy;go_wp2_with fail;refine g.mono ?_;rintro e w3 ⟨v,rfl,aA,bF⟩;obtain⟨y,z,rfl,fK,_,_⟩:=aA.src;have i:=iE (t.o.later bF) ((f:Int)+(Y.1:Int)) y _ z Y.2.1 fK (by omega);rw [Fj,<-N.o] at i;rw [Fj];have gd:=yh bF;clear g aA fK bF;go_wp2_with fail;refine fR i λw4 a dW=>?_;obtain⟨O,Mb,ly,wk⟩:=cO (fC a (by omega)) (yh ((aa.ah F gd.o).trans dW (λ_ h=> .inl h))) gd.o.size dW.size;clear i a dW;go_wp2_with fail;refine fR O λw5 jG dX=>?_;have pL:=dX.size;have u:=yh (aH (jG.mono (G:=more F w w5) (λj b=>by
    rcases b with b|b
    .exact .inl b
    .exact .inr ⟨by omega,by omega⟩) (cJ iK.o (by omega))) (Mb.o.trans dX (λj b=>by
    rcases b with b|b
    .exact .inl b
    .exact .inr (by omega))))
  clear O jG dX;go_wp2;go_ret;exact⟨rfl,u.o⟩
 .rw [aG p];have R:(Z.1 == 0)=false:=by rw [fJ];exact p
  clear p;go_in;go_wp2_with fail;refine q.mono ?_;rintro e w1 ⟨A,k,rfl,D,mj,bO⟩;have jO:=bO.symm;clear bO;subst jO;clear q;go_wp2_with fail;refine n.mono ?_;rintro e w2 ⟨C,m,rfl,H,fy,dE⟩;have KH:=dE.symm;clear dE;subst KH;have c:=mj.src;have d:=fy.src;rw [jk] at c;rw [mO] at d;have g:=M.o (some (aD A 0)) 512 k (some (aD C 0)) 512 m _ c d;rw [h0] at g;clear n c d mj fy;go_wp2_with fail;refine g.mono ?_;rintro e w3 ⟨v,rfl,aA,bF⟩;obtain⟨y,z,rfl,fK,_,_⟩:=aA.src;have i:=iE (t.o.later bF) ((f:Int)+(Y.1:Int)) y _ z Y.2.1 fK (by omega);rw [Fj,<-N.o] at i;rw [Fj];have gd:=yh bF;clear g aA fK bF;go_wp2_with fail;refine fR i λw4 a dW=>?_;have u:=yh (aH (a.from iK.o gd.o.size dW.size) (yh ((aa.ah F gd.o).trans dW (λ_ h=> .inl h))).out);clear i a dW;go_wp2;go_ret;exact⟨rfl,u.o⟩
end
end
section
section
variable {w w':World} {F G:Nat->Prop} {r s k:Nat} {S:DS} {L:LG}
def GY (h:aC w F r s S) (dD:S.fL) (f n:Int) (aU:S.puts.length+500<=4000000000000):
  Calls prog 57 #[pQ r,iV f,iV n] w λe w'=>e= .returned (iV (cD S s f n).1)/\aC w' (more F w w') r s (cD S s f n).2/\aa F w w':=by
 have x:=CK h f n;have u:=yh h.lt;have Q:=yh h;unfold cD;go_in;by_cases q:cw S s f n=0
 .rw [aB (λh=>h q)];obtain⟨Zs,a,b,rfl,rfl,oE,ar,bd⟩:=fV q;rw [q] at x;simp only [Int.toNat_natCast];have L:=zy h;have Z:=h.ok.hi;have ad1:S.take.Ok s:=⟨h.ok.len,h.ok.lo,h.ok.hi,h.ok.puts,h.ok.fuse⟩;obtain⟨UC,Fn⟩:=bU (kP (f:=a) (n:=b) ad1 oE) ((dD.take).QV s a b);have aja:∀k,(bE S.take s a k).2.puts.length<=S.puts.length+k:=λk=>pT S.take s a k;obtain⟨P,D⟩:=bQ ((if (cN S.take s a b).1≠0 then cN S.take s a b else cZ (cN S.take s a b).2 s a 4294967296));rw [<-D];have C:=yh D;clear q h dD ad1 D;go_wp2_with fail;refine bM x λw1 bO=>?_;have jO:=bO.symm;clear bO;subst jO;clear x;go_wp2_with fail;refine fR L λz cI aY=>?_;have sq:=yh cI;have ig:=yh aY;have eu:=aY.size;clear L cI aY;go_wp2;go_loopw [8] (λi wr=>∃k:Nat,k<=b+2/\i=iV (k:Int)/\(bE S.take s a k).1=0/\aC wr (more F z wr) r s (bE S.take s a k).2/\aa F z wr) (λi _=>b+2-(intOf i).toNat);case atStart=>exact⟨0,dV _,rfl,rfl,sq.o.more,aa.refl _ _⟩
  case round=>
   obtain⟨k,X,rfl,O,hd,eZ⟩:=hrel;obtain⟨J,sP,CV,Ae,Pm⟩:=eK (yh O) (yh hd) (yh eZ) eZ.size (aja k);clear O hd eZ;by_cases q:k<b+2
   .have bq:(k:Int)<(b:Int)+2:=(by omega);go_wp2_with fail;refine(qY wr).mono ?_;rintro e T ⟨rfl,be,bF⟩;have fS:Src T (some (aD wr.heap.size 0)) 512 (zs 512):=be.src;have I:=iE (sP.o.later bF) ((a+k:Nat):Int) (some (aD wr.heap.size 0)) 512 512 (zs 512) fS (by omega);have K:bE S.take s a (k+1)=(bE S.take s a k).2.wr s ((a+k:Nat):Int) 512 (zs 512):=jt J.o;rw [<-K,show ((a+k:Nat):Int)=(a:Int)+(k:Int) by omega] at I;have gd:=yh bF;have ly:=bF.size;clear be fS bF K;go_wp2_with fail;refine fR I λU l dW=>?_;have wk:=dW.size;have c:=l.mono (λj c=>by
     rcases c with (c|c)|c
     .exact .inl c
     .exact .inr ⟨c.1,by omega⟩
     .exact .inr ⟨by omega,c.2⟩) (cJ (F:=F) (w:=z) (λj c=>by have:=u.o j c;omega) (by omega))
    have Kh:=(CV.o.trans (aa.ah (λ_=>False) gd.o) (λ_ h=>h.elim)).trans dW (λj c=>by
     rcases c with c|c
     .exact .inl c
     .exact .inr c.1)
    obtain⟨Py,I9⟩:=bU c Kh;clear l dW I c Kh;by_cases g:(bE S.take s a (k+1)).1=0
    .have d:((bE S.take s a (k+1)).1 == 0)=true:=(by rw [beq_iff_eq];exact g);have p:=yh g;clear g;go_wp2;go_roundw;case rel=>exact⟨k+1,by omega,by go_num,p.o,Py.o,I9.o⟩
     case measure=>simp [intOf];omega
    .have d:((bE S.take s a (k+1)).1 == 0)=false:=(by rw [fJ];exact g);have t:cN S.take s a b=bE S.take s a (k+1):=by
      have:bE S.take s a (b+2)=bE S.take s a (k+1):=gC g (b+2) (by omega);unfold cN;rw [this,aG g]
     have m:P=bE S.take s a (k+1):=(by rw [C.o,t,aG g]);have p:=yh m;clear g t m;go_wp2;go_ret;rw [p.o];exact⟨rfl,Py.o.from u.o eu (by omega),ig.o.trans I9.o (λ_ h=> .inl h)⟩
   .obtain rfl:k=b+2:=(by omega);have y:=fC sP.o (by omega);have t:cN S.take s a b=(bE S.take s a (b+2)).2.fl s:=by
     unfold cN;rw [aB (by rw [J.o];decide)]
    rw [<-t] at y;have H:(cN S.take s a b).2.puts.length<=S.puts.length+(b+3):=by
     rw [t];have:=yr (bE S.take s a (b+2)).2 s;omega
    clear Pm;clear t;obtain⟨Y,E⟩:=bQ (cN S.take s a b);rw [<-E] at y H;have v:=yh E;clear E;go_wp2_with fail;refine fR y λU l dW=>?_;have wk:=dW.size;have c:=l.mono (λj c=>by
     rcases c with c|c
     .exact .inl c
     .exact .inr ⟨c.1,by omega⟩) (cJ (F:=F) (w:=z) (λj c=>by have:=u.o j c;omega) (by omega))
    have Kh:=CV.o.trans dW (λj c=>by
     rcases c with c|c
     .exact .inl c
     .exact .inr c.1)
    obtain⟨Py,I9⟩:=bU c Kh;clear l dW y;by_cases g:Y.1=0
    .have d:(Y.1 == 0)=true:=(by rw [beq_iff_eq];exact g);have fB:=(UC.o.2.2.2 (by rw [<-v.o];exact g)).1;have Wq:=UC.o.2.1;rw [<-v.o] at fB Wq;have aah:=Fn.o;rw [<-v.o] at aah;have m:P=cZ Y.2 s a 4294967296:=(by rw [C.o,<-v.o,aB (by rw [g];decide)]);have A:=yh m;have vf:=iD (bu Wq a (by omega)) (bu Wq (a+1) (by omega)) (N:=4294967296) (by omega) (by unfold DS.num at fB;omega);have M:=oL c a 1 0 (by omega) (by omega) (by omega) (by omega) aah vf;have p:=yh g;clear g vf fB Wq c Kh aah m;go_wp2_with fail;refine fR M λw5 jG dX=>?_;have pL:=dX.size;have R:=yh (aH (jG.mono (G:=more F w w5) (λj c=>by
      rcases c with (c|c)|c
      .exact .inl c
      .exact .inr ⟨by omega,by omega⟩
      .exact .inr ⟨by omega,c.2⟩) (cJ u.o (by omega))) ((ig.o.trans I9.o (λ_ h=> .inl h)).trans dX (λj c=>by
      rcases c with c|c
      .exact .inl c
      .exact .inr (by omega))))
     clear M jG dX;go_wp2;go_ret;rw [A.o];exact⟨rfl,R.o⟩
    .have d:(Y.1 == 0)=false:=(by rw [fJ];exact g);have m:P=Y:=(by rw [C.o,<-v.o,aG g]);have p:=yh m;clear g c Kh m;go_wp2;go_ret;rw [p.o];exact⟨rfl,Py.o.from u.o eu (by omega),ig.o.trans I9.o (λ_ h=> .inl h)⟩
 .rw [aG q];have W:(cw S s f n == 0)=false:=by rw [fJ];exact q
  clear q dD;go_wp2_with fail;refine bM x λw1 bO=>?_;have jO:=bO.symm;clear bO;subst jO;clear x;go_wp2;go_ret;exact⟨rfl,Q.o.more,aa.refl _ _⟩
end
end
section
section
variable {w w':World} {F G:Nat->Prop} {r s k:Nat} {S:DS} {L:LG}
def cK.started (h:cK w k r L) (E:Int) (n:Nat) (a:E=(n:Int)):cK ((((w.setCell ⟨k,8,none⟩ (.bool true)).setCell ⟨k,4,none⟩ (.int .i64 E)).setCell ⟨k,5,none⟩ (.int .i64 0)).setCell ⟨k,6,none⟩ (.int .i64 0)) k r {L with begun:=true,ep:=n,tail:=0,head:=0}:=by
 subst a;exact(heap_setCell_same _ _ 6 _ _ _ (heap_setCell_same _ _ 5 _ _ _ (heap_setCell_same _ _ 4 _ _ _ (heap_setCell_same _ _ 8 _ _ _ h)))).trans (by simp)
def cK.trimmed (h:cK w k r L):cK (w.setCell ⟨k,5,none⟩ (.int .i64 (L.head:Int))) k r {L with tail:=L.head}:=(heap_setCell_same _ _ 5 _ _ _ h).trans (by simp)
def Si {F:Nat->Prop} {l:Nat} (b:¬F l) (c:l<w3.heap.size):∀k,more F w3 w2 k->¬k=l:=λk a e=>by
 subst e;rcases a with a|a
 .exact b a
 .omega
def aC.sS {w w':World} (hd:aC w2 (Go.Proofs.YtcpdggdfihjhoabGreat.more F w3 w2) r s S) (d:∀j,F j->j<w.heap.size) (b:aa (λj=>j=k) w2 w') (c:¬F k) (aZ:k<w3.heap.size) (f:w.heap.size<=w3.heap.size) (e:w3.heap.size<=w2.heap.size):aC w' (Go.Proofs.YtcpdggdfihjhoabGreat.more F w w') r s S:=
   (hd.aw b (Si c aZ)).mono (λj a=>by
  rcases a with a|a
  .exact .inl a
  .exact .inr ⟨by omega,by have:=b.size;omega⟩) (cJ d (by have:=b.size;omega))
def Aj (h:aC w F r s S) (u:cK w k r L) (t:L.Ok s) (p:¬F k) (dD:S.fL) (aU:S.puts.length+2<=4000000000000) (D:L.dead S=false->L.begun=false->S.num L.f<(L.top+1)*4294967296):
  Calls prog 121 #[pQ k] w λe w'=>e= .returned (iV (L.start S s).1)/\aC w' (more F w w') r s (L.start S s).2.1/\cK w' k r (L.start S s).2.2/\aa (λj=>F j\/j=k) w w':=by
 obtain⟨a,i,g,iK,bq,K,DR,jk⟩:=xm (vp h u) u h h.lt u.lt t.s t.top t.n1;unfold LG.start;have du:=h.ok;go_in;cases hd:L.dead S
 .rw [hd] at a;rw [aB (by decide)];cases vA:L.begun
  .rw [aB (by decide)];have vf:=iD (bu du L.f (by omega)) (bu du (L.f+1) (by omega)) (N:=(L.top+1)*4294967296) (by omega) (D hd vA);rw [show (((L.top+1)*4294967296:Nat):Int)=((L.top+1:Nat):Int)*4294967296+((0:Nat):Int) by omega] at vf;have l:=(λc (cI:aC c F r s S)=>oL cI L.f (L.top+1) 0 (by omega) (by omega) aU (by omega) dD vf);generalize J:cZ S s L.f (((L.top+1:Nat):Int)*4294967296+((0:Nat):Int))=Y at*;rw [show ((L.top+1:Nat):Int)=(L.top:Int)+1 by omega,show (((0:Nat):Int))=0 from rfl,<-show IntKind.i64.wrap ((L.top:Int)+1)=(L.top:Int)+1 by rw [IntKind.wrap_i64];omega] at l;by_cases q:Y.1=0
   .rw [aB (λh=>h q)];have d:(Y.1 == 0)=true:=(by rw [beq_iff_eq];exact q);go_wp2_with fail;refine bM a λw1 ar=>?_;have cq:=i.later ar;obtain⟨m,n,o,b⟩:=cO cq.c0 cq.c2 cq.c7 cq.c8;rw [vA] at b;go_wp2_with fail;go_region_held3 (λw'=>w'.cell? (aD k 0)=some (pQ r)/\w'.cell? (aD k 2)=some (iV (L.f:Int))/\w'.cell? (aD k 7)=some (iV (L.top:Int)))
     (first|exact⟨m,n,o⟩|exact⟨je.c0,je.c2,je.c7⟩)
       ((go_at_call 114;refine(l _ (g.later (ai ar))).mono ?_;rintro e c ⟨rfl,cI,aY⟩;have aZ:=(aa.ah F ar).trans (aa.ah (λ_=>False) (ai (bi w1.heap.size w1))) (λ_ h=>h.elim);have ip:=cq.later (ai (bi w1.heap.size w1));have je:=ip.aw aY p))
    generalize w1.drew=v at*;obtain⟨y,z,A,C,E,G,H,I,ly,eu⟩:=vV je.c4 je.c5 je.c6 je.c8 (je.fz 4) (je.fz 5) (je.fz 6) (je.fz 8) aZ.size aY.size;have ew:aa (λj=>j=k) c ((((c.setCell ⟨k,8,none⟩ (.bool true)).setCell ⟨k,4,none⟩ (.int .i64 ((L.top:Int)+1))).setCell ⟨k,5,none⟩ (.int .i64 0)).setCell ⟨k,6,none⟩ (.int .i64 0)):=(((aL (F:=λj=>j=k) _ rfl 8 _).trans (aL (F:=λj=>j=k) _ rfl 4 _) (λ_ h=> .inl h)).trans (aL (F:=λj=>j=k) _ rfl 5 _) (λ_ h=> .inl h)).trans (aL (F:=λj=>j=k) _ rfl 6 _) (λ_ h=> .inl h);have x:=(aH (cI.sS (w:=w) (k:=k) iK ew p (by omega) ly eu) (aH (je.started ((L.top:Int)+1) (L.top+1) (by omega)) (((aZ.mono (λ_ h=> .inl h):aa (λj=>F j\/j=k) w v).trans aY (λ_ h=> .inl (.inl h))).trans ew (λ_ h=> .inl (.inr h)))));go_wp2;go_ret;exact⟨rfl,x⟩
   .rw [aG q];have d:(Y.1 == 0)=false:=(by rw [fJ];exact q);go_wp2_with fail;refine bM a λw1 ar=>?_;have cq:=i.later ar;obtain⟨m,n,o,b⟩:=cO cq.c0 cq.c2 cq.c7 cq.c8;rw [vA] at b;go_wp2_with fail;go_region_held3 (λw'=>w'.cell? (aD k 0)=some (pQ r)/\w'.cell? (aD k 2)=some (iV (L.f:Int))/\w'.cell? (aD k 7)=some (iV (L.top:Int)))
     (first|exact⟨m,n,o⟩|exact⟨je.c0,je.c2,je.c7⟩)
       ((go_at_call 114;refine(l _ (g.later (ai ar))).mono ?_;rintro e c ⟨rfl,cI,aY⟩;have aZ:=(aa.ah F ar).trans (aa.ah (λ_=>False) (ai (bi w1.heap.size w1))) (λ_ h=>h.elim);have ip:=cq.later (ai (bi w1.heap.size w1));have je:=ip.aw aY p))
    generalize w1.drew=v at*;go_wp2;go_ret;exact⟨rfl,(aH (cI.from iK aZ.size aY.size) (aH je ((aZ.mono (λ_ h=> .inl h):aa (λj=>F j\/j=k) w v).trans aY (λ_ h=> .inl (.inl h)))))⟩
  .rw [aG rfl];go_wp2_with fail;refine bM a λw1 ar=>?_;have cq:=i.later ar;have b:=cq.c8;rw [vA] at b;go_wp2;go_ret;exact⟨rfl,aH ((g.later ar).more (w:=w)) (aH cq (aa.ah (λj=>F j\/j=k) ar))⟩
 .rw [hd] at a;rw [aG rfl];go_wp2_with fail;refine bM a λw1 ar=>?_;go_wp2;go_ret;exact⟨rfl,aH ((g.later ar).more (w:=w)) (aH (i.later ar) (aa.ah (λj=>F j\/j=k) ar))⟩
end
end
section
section
variable {w w':World} {F G:Nat->Prop} {r s k:Nat} {S:DS} {L:LG}
def Ov (h:aC w F r s S) (A:cK w k r L) (p:L.Ok s) (m:¬F k) (dD:S.fL) (aU:S.puts.length+3<=4000000000000) (J:L.bj S=0->S.num L.f<=L.ep*4294967296+L.tail):
  Calls prog 129 #[pQ k] w λe w'=>e= .returned (iV (L.trim S s).1)/\aC w' (more F w w') r s (L.trim S s).2.1/\cK w' k r (L.trim S s).2.2/\aa (λj=>F j\/j=k) w w':=by
 obtain⟨g,x,v,iK,bq,hs,jk,M,ef,du⟩:=vV (lY h A) (yh A) (yh h) (yh h.lt) A.lt p.s p.n1 p.ep p.th h.ok;unfold LG.trim;by_cases u:L.bj S=0
 .have O:L.begun=true:=by
   unfold LG.bj at u;split at u
   .omega
   .split at u
    .assumption
    .omega
  have P:=p.hb O;have z:L.sync S s=S.fl s:=by unfold LG.sync;rw [aB (by omega)]
  rw [z];rw [u] at g;have K:=J u;obtain⟨Z,n⟩:=bQ (S.fl s);have ad2:Z.2.Ok s:=by rw [n];exact rY du
  have ajc:Z.2.fL:=by rw [n];exact dD.fl s
  have hZp:Z.2.puts.length<=S.puts.length+1:=by rw [n];exact yr S s
  have I:Z.2.num L.f=S.num L.f:=by
   rw [n];unfold DS.num;rw [eY du (by omega),eY du (by omega)]
  rw [<-n];have Wr:=yh n;clear h A p dD J u z n du;by_cases t:Z.1=0
  .rw [aB (λh=>h t)];have Ow:=yh t;clear t;by_cases C:L.tail=L.head
   .rw [aG C];have X:((L.tail:Int) == (L.head:Int))=true:=(by rw [beq_iff_eq];omega);clear C;go_in;go_wp2_with fail;refine bM g λw1 ar=>?_;have cq:=x.o.later ar;have c:=cq.c0;have b:=fC (v.o.later ar) (by omega);rw [<-Wr.o] at b;rw [Ow.o] at b;obtain⟨cQ,Bz⟩:=bU ar cq;clear g ar cq;go_wp2_with fail;refine fR b λa cI aY=>?_;have fH:=Bz.o.aw aY m;clear b c;have H:=fH.c5;have y:=fH.c6;have l:=yh (λj=>aH ((cI.later (below_drewN (bi _ _) j)).more (w:=w)) (aH (fH.later (below_drewN (bi _ _) j)) ((((aa.ah F cQ.o).trans aY (λ_ h=> .inl h)).mono (λ_ h=> .inl h):aa (λj=>F j\/j=k) w a).trans (aa.ah (λ_=>False) (below_drewN (bi a.heap.size a) j)) (λ_ h=>h.elim))));clear cI aY fH;go_wp2_with fail;go_quiet (fail);go_wp2;go_ret;exact⟨rfl,l.o _⟩
   .rw [aB C];have X:((L.tail:Int) == (L.head:Int))=false:=(by rw [fJ];omega);have vf:=iD (bu ad2 L.f (by omega)) (bu ad2 (L.f+1) (by omega)) (N:=L.ep*4294967296+L.head) (by omega) (by unfold DS.num at I K;omega);rw [show ((L.ep*4294967296+L.head:Nat):Int)=(L.ep:Int)*4294967296+(L.head:Int) by omega] at vf;have T:=yh (λa (cI:aC a F r s Z.2)=>oL cI L.f L.ep L.head M P (by omega) (by omega) ajc vf);generalize hY:cZ Z.2 s L.f ((L.ep:Int)*4294967296+(L.head:Int))=Y at*;clear C vf hY;by_cases q:Y.1=0
    .rw [aB (λh=>h q)];have d:(Y.1 == 0)=true:=(by rw [beq_iff_eq];exact q);have D:=yh q;clear q;go_in;go_wp2_with fail;refine bM g λw1 ar=>?_;have cq:=x.o.later ar;have c:=cq.c0;have b:=fC (v.o.later ar) (by omega);rw [<-Wr.o] at b;rw [Ow.o] at b;obtain⟨cQ,Bz⟩:=bU ar cq;clear g ar cq;go_wp2_with fail;refine fR b λa cI aY=>?_;have fH:=Bz.o.aw aY m;clear b c;obtain⟨c,E,G,H,y,sq,Vx,lO⟩:=xm fH.c0 fH.c2 fH.c4 fH.c5 fH.c6 (yh cI) (yh fH) (yh ((aa.ah F cQ.o).trans aY (λ_ h=> .inl h)));clear cI fH aY;go_wp2_with fail;go_quiet (fail);go_wp2_with fail;go_region_held3 (λw'=>w'.cell? (aD k 0)=some (pQ r)/\w'.cell? (aD k 2)=some (iV (L.f:Int))/\w'.cell? (aD k 4)=some (iV (L.ep:Int))/\w'.cell? (aD k 6)=some (iV (L.head:Int)))
      (first|exact⟨c,E,G,y⟩|exact⟨je.c0,je.c2,je.c4,je.c6⟩)
        ((go_at_call 114;refine(T.o _ (sq.o.later (below_drewN (bi _ _) (nq+1)))).mono ?_;rintro e R ⟨rfl,i,dW⟩;have dX:=lO.o.trans (aa.ah (λ_=>False) (below_drewN (bi a.heap.size a) (nq+1))) (λ_ h=>h.elim);have ip:=Vx.o.later (below_drewN (bi a.heap.size a) (nq+1));have je:=ip.aw dW m))
     generalize a.drewN (nq+1)=Q at*;obtain⟨ly,wk,U,f5⟩:=cO dX.size dW.size je.c5 (je.fz 5);have ew:aa (λj=>j=k) R (R.setCell ⟨k,5,none⟩ (.int .i64 (L.head:Int))):=aL (F:=λj=>j=k) _ rfl 5 _;have l:=yh (aH (i.sS (w:=w) (k:=k) iK.o ew m (by omega) ly wk) (aH je.trimmed (((dX.mono (λ_ h=> .inl h):aa (λj=>F j\/j=k) w Q).trans dW (λ_ h=> .inl (.inl h))).trans ew (λ_ h=> .inl (.inr h)))));clear i dW je dX ip ew;go_wp2;go_ret;exact⟨by rw [<-D.o];rfl,l.o⟩
    .rw [aG q];have d:(Y.1 == 0)=false:=(by rw [fJ];exact q);clear q;go_in;go_wp2_with fail;refine bM g λw1 ar=>?_;have cq:=x.o.later ar;have c:=cq.c0;have b:=fC (v.o.later ar) (by omega);rw [<-Wr.o] at b;rw [Ow.o] at b;obtain⟨cQ,Bz⟩:=bU ar cq;clear g ar cq;go_wp2_with fail;refine fR b λa cI aY=>?_;have fH:=Bz.o.aw aY m;clear b c;obtain⟨c,E,G,H,y,sq,Vx,lO⟩:=xm fH.c0 fH.c2 fH.c4 fH.c5 fH.c6 (yh cI) (yh fH) (yh ((aa.ah F cQ.o).trans aY (λ_ h=> .inl h)));clear cI fH aY;go_wp2_with fail;go_quiet (fail);go_wp2_with fail;go_region_held3 (λw'=>w'.cell? (aD k 0)=some (pQ r)/\w'.cell? (aD k 2)=some (iV (L.f:Int))/\w'.cell? (aD k 4)=some (iV (L.ep:Int))/\w'.cell? (aD k 6)=some (iV (L.head:Int)))
      (first|exact⟨c,E,G,y⟩|exact⟨je.c0,je.c2,je.c4,je.c6⟩)
        ((go_at_call 114;refine(T.o _ (sq.o.later (below_drewN (bi _ _) (nq+1)))).mono ?_;rintro e R ⟨rfl,i,dW⟩;have dX:=lO.o.trans (aa.ah (λ_=>False) (below_drewN (bi a.heap.size a) (nq+1))) (λ_ h=>h.elim);have ip:=Vx.o.later (below_drewN (bi a.heap.size a) (nq+1));have je:=ip.aw dW m))
     generalize a.drewN (nq+1)=Q at*;have l:=yh (aH (i.from iK.o dX.size dW.size) (aH je ((dX.mono (λ_ h=> .inl h):aa (λj=>F j\/j=k) w Q).trans dW (λ_ h=> .inl (.inl h)))));clear i dW je dX ip;go_wp2;go_ret;exact⟨rfl,l.o⟩
  .rw [aG t];have W:(Z.1 == 0)=false:=(by rw [fJ];exact t);have dn:(Z.1 != 0)=true:=(by rw [gA];exact t);clear t;go_in;go_wp2_with fail;refine bM g λw1 ar=>?_;have cq:=x.o.later ar;have c:=cq.c0;have b:=fC (v.o.later ar) (by omega);rw [<-Wr.o] at b;obtain⟨cQ,Bz⟩:=bU ar cq;clear g ar cq;go_wp2_with fail;refine fR b λa cI aY=>?_;have fH:=Bz.o.aw aY m;clear b c;have H:=fH.c5;have y:=fH.c6;have l:=yh (λj=>aH ((cI.later (below_drewN (bi _ _) j)).more (w:=w)) (aH (fH.later (below_drewN (bi _ _) j)) ((((aa.ah F cQ.o).trans aY (λ_ h=> .inl h)).mono (λ_ h=> .inl h):aa (λj=>F j\/j=k) w a).trans (aa.ah (λ_=>False) (below_drewN (bi a.heap.size a) j)) (λ_ h=>h.elim))));clear cI aY fH;go_wp2_with fail;go_quiet (fail);go_wp2;go_ret;exact⟨rfl,l.o _⟩
 .have z:L.sync S s=(L.bj S,S):=by unfold LG.sync;rw [aG u]
  rw [z];simp only;rw [aG u];have W:(L.bj S == 0)=false:=by rw [fJ];exact u
  clear h A p dD J u z du;go_in;go_wp2_with fail;refine bM g λw1 ar=>?_;have l:=yh (aH ((v.o.later ar).more (w:=w)) (aH (x.o.later ar) (aa.ah (λj=>F j\/j=k) ar)));clear g ar;go_wp2;go_ret;exact⟨rfl,l.o⟩
end
end
def sT (x:Nat) (w:World) (b:x<=140737488355328):Calls prog 140 #[iV (x:Int)] w λe w'=>e= .returned (iV (((x+491) / 492:Nat):Int))/\w'=w:=by
 have a:((x:Int)+492-1).tdiv 492=(((x+491) / 492:Nat):Int):=by rw [Int.tdiv_eq_ediv_of_nonneg (by omega)];omega
 go_in;go_wp2;go_ret;refine⟨?_,rfl⟩;first|rfl|(simp;omega)
def br {P:Program} {b:Array Oper} {Q:Exit->Act->World->Prop} {o:Oper} {rest:List Oper} {a:Act} (d:o.guard=none) (s x:Operand) (t:TypeId) (e:o.op= .call {callee:= .builtin .append,args:= #[s,x],argTypes:= #[t,t]}) (v u r:Value) (g:a.eval s=v) (i:a.eval x=u)
    (f:(Builtin.append_ #[t,t] o.type #[v,u]).run P w= .ok r w') (h:wpList P b Q rest (a.put o.dst r) w'):wpList P b Q (o :: rest) a w:=
 wpList_plain d λ_ c=>eA s x t e v u r g i f (c _ _ h)
def ri {W:World} {B:Nat} {f:List Int} (aA:Own W B v f) {a:Option Addr} (c:Nat) (p:Src W a n d) (hd:0<n) (b:f.length+n<=1000000) (j:B<=W.heap.size):
  ∃v' w',(Builtin.append_ #[22,22] 22 #[v, .slice a n c]).run prog W= .ok v' w'/\Own w' B v' (f ++ d)/\Below B W w':=by
 obtain⟨g,l,w',m,i,o,_⟩:=qT aA c p hd b j;refine⟨_,w',m,?_,(bi B W).grown o j (λk e=>ju aA e)⟩;rw [<-iQ] at i;have e:f.length+d.length=(f ++ d).length:=by simp
 unfold Own;rw [e] at i⊢;exact i
def lJ (m n:Nat) (w:World) (j:m<=9223372036854775807) (o:n<=8):
  Calls prog 173 #[iV (m:Int),iV (n:Int)] w λe w'=>∃v,e= .returned v/\Own w' w.heap.size v (bB n m)/\bW w w':=by
 go_in;go_wp2;go_loopw [0,5,6] (λx v i wr=>∃k:Nat,k<=n/\x=iV ((m / 2 ^ (8*k):Nat):Int)/\i=iV (k:Int)/\Own wr w.heap.size v (bB k m)/\bW w wr) (λ_ _ i _=>n-(intOf i).toNat);case atStart=>exact⟨0,dV _,by simp,rfl,Own.nil _ _,bi _ _⟩
 case round=>
  obtain⟨k,l,rfl,rfl,aA,ev⟩:=hrel;obtain⟨bt,a,p,f⟩:=cO aA ev ev.size (aK k m);clear aA ev;by_cases bq:k<n
  .have cC:(k:Int)<(n:Int):=(by omega);have g:m / 2 ^ (8*k)<=9223372036854775807:=j3 (Nat.div_le_self _ _) j;have c:m / 2 ^ (8*(k+1))=m / 2 ^ (8*k) / 256:=(by rw [Nat.div_div_eq_div_mul,Nat.mul_succ,Nat.pow_add]);have Ja:=c;have Pz:=i7 k m;clear c;obtain⟨Q,d⟩:=bQ (m / 2 ^ (8*k));rw [<-d] at g Ja Pz⊢;clear d;have q:(Q:Int).tmod 256=((Q%256:Nat):Int):=(by rw [Int.tmod_eq_emod_of_nonneg (by omega)];omega);have r:(Q:Int).tdiv 256=((Q / 256:Nat):Int):=(by rw [Int.tdiv_eq_ediv_of_nonneg (by omega)];omega);go_wp2_with (at_builtin;refine co rfl _ _ rfl w.heap.size u5 (bB k m) _ rfl rfl bt ?b1 ?b2 ?_);case b1=>omega
   case b2=>omega
   intro s w1 tG ar;have b:=(aH tG (a.trans ar));clear tG ar;go_wp2;go_roundw;case rel=>exact⟨k+1,by omega,by rw [Ja];first|rfl|simp,by go_num,by rw [Pz];exact b.1,b.2⟩
   case measure=>simp [intOf];omega
  .obtain rfl:k=n:=(by omega);have wj:¬(k:Int)<(k:Int):=(by omega);go_wp2;go_ret;exact⟨_,rfl,bt,a⟩
section
def MC (S:DS) (s f n E P i c:Nat) (part:List Int):jX S s f n E P i c part=S.wr s ((f+2+P%n:Nat):Int) 512 (gv (S.now (f+2+P%n)) (kO E P i c part)).1:=by
 unfold jX;split
 .rename_i h;unfold DS.wr;rw [aG h]
 .rfl
section
variable {w w':World} {F G:Nat->Prop} {r s k:Nat} {S:DS} {L:LG}
def KI (h:aC w F r s S) (Q:cK w k r L) (u:L.Ok s) (hF:¬F k) (dD:S.fL) (b o x c:Nat) (d:List Int) (hs:Src w (some (aD b o)) x d) (Dw:¬F b) (hd:Bytes d) (hxc:x<=c) (hr:L.fW S x=0) (aU:S.puts.length+100<=4000000000000):
  Calls prog 141 #[pQ k, .slice (some (aD b o)) x c] w λe w'=>e= .returned (iV (L.append S s d).1)/\aC w' (more F w w') r s (L.append S s d).2.1/\cK w' k r (L.append S s d).2.2/\aa (λj=>F j\/j=k) w w':=by
 obtain⟨k0,k1,k2,k3,k4⟩:=jJ hr;have h1:=lY h Q;rw [k0] at h1;have UB:=hs.1;obtain⟨C,hC⟩:=bQ ((x+491) / 492);have X1:dh x=C:=by rw [hC];rfl
 rw [X1] at k3 k4;have Qb:C<=17:=by omega
 obtain⟨bq,hhi,ef,jk,mO,eE,hep,Ml⟩:=xm Q.lt u.hi u.th u.n1 u.n2 u.s u.ep h.ok.hi;obtain⟨P,hP⟩:=bQ (L.append S s d);rw [<-hP];have t:P=if (cU L S s d C).1≠0 then ((cU L S s d C).1,(cU L S s d C).2,L) else (0,(cU L S s d C).2,{L with head:=L.head+C}):=by
  rw [hP];unfold LG.append;rw [UB,hr,X1,aB (by decide)]
 obtain⟨HP,HC,HL,HD,iK,Yc⟩:=YO t hC Q h h.lt hs;have Fn:=yh dD;have iN:((x:Int) == 0)=false:=by rw [fJ];omega
 have hd3:¬(1073741824:Int)<(L.head:Int)+(C:Int):=by omega
 have hd4:¬(L.n:Int)-((L.head:Int)-(L.tail:Int))<(C:Int):=by omega
 clear h Q u dD hs hP t hC hr k0;go_in;go_wp2_with fail;refine bM h1 λw1 ar=>?_;have cq:=HL.o.later ar;obtain⟨O,c5,c6⟩:=kE cq.c3 cq.c5 cq.c6;clear h1;go_wp2_with fail;refine((λwx=>sT x wx (by omega)) _).mono ?_;rintro e R ⟨rfl,dE⟩;have eG:=dE.symm;subst eG;rw [<-HC.o];obtain⟨cQ,Bz⟩:=bU ar cq;clear dE ar cq;go_wp2_with fail;go_quiet (fail);obtain⟨fd,Vx⟩:=bU (below_drewN cQ.o nq) (Bz.o.later (below_drewN (bi w1.heap.size w1) nq));generalize w1.drewN nq=R at*;clear O c5 c6 Bz cQ;go_wp2;have eu:=fd.o.size;go_loopw [7] (λi wr=>∃j:Nat,j<=C/\i=iV (j:Int)/\(cU L S s d j).1=0/\aC wr (more F R wr) r s (cU L S s d j).2/\aa F R wr) (λi _=>C-(intOf i).toNat);case atStart=>exact⟨0,dV _,rfl,rfl,(HD.o.later fd.o).more,aa.refl _ _⟩
 case round=>
  obtain⟨j,hj,rfl,he,D,eZ⟩:=hrel;have BK:=Vx.o.aw eZ hF;have HE:=yh he;have sP:=yh D;have CV:=yh eZ;have RM:=yh BK;have Ae:=eZ.size;clear he D eZ;by_cases q:j<C
  .have cC:(j:Int)<(C:Int):=(by omega);have c4:=BK.c4;have hxI:492*j<x:=(by have:=HC.o;omega);clear BK;have py:(min (x:Int) (((j:Int)+1)*492)).toNat-j*492=gD x j:=(by unfold gD;omega);have yw:gD x j=min 492 (x-492*j):=rfl;have apI:1<=gD x j/\gD x j<=492:=(by omega);have kU:=Yc.o.oX ((aa.ah F fd.o).trans CV.o (λ_ h=> .inl h)) (λz hz _=>by cases hz;exact Dw);have X3:Src wr (some ⟨b,o+j*492,none⟩) (gD x j) (partOf d j):=by
    have:=kU.sub (492*j) (gD x j) (by omega);rwa [show (d.drop (492*j)).take (gD x j)=partOf d j by unfold partOf;rw [List.take_eq_take_iff,List.length_drop,UB];omega,Nat.mul_comm] at this
   obtain⟨HSP,HPl⟩:=bU X3 py;clear X3 kU py yw;go_wp2_with fail;rw [HPl.o];have iM:=lJ L.ep 4 wr (by omega) (by omega);rw [show (((4:Nat)):Int)=4 from rfl] at iM;refine iM.mono ?_;rintro e wa1 ⟨v1,rfl,l,a⟩;obtain⟨a1,c1,rfl,zN,_,_⟩:=l.src;rw [aK] at zN⊢;have apM:=a.size;obtain⟨x1,J,bD,aA,iP⟩:=ri (B:=wr.heap.size) (show Own wa1 wr.heap.size (.slice none 0 0) ([]) from Own.nil _ _) c1 zN (by omega) (by simp) (by omega);have apN:=iP.size;have ad3:=yh bD;have Z:=yh aA;have cQ:Yh (bW wr J):=(a.mono (by omega)).trans iP;have cc1:=(RM.o.later cQ.o).c6;clear iM l a zN bD aA iP;go_wp2_with (at_builtin;refine br rfl _ _ 22 rfl (.slice none 0 0) (.slice a1 4 c1) _ rfl rfl ad3.o ?_);have qL:=lJ (L.head+j) 4 J (by omega) (by omega);rw [show (((4:Nat)):Int)=4 from rfl] at qL;rw [show ((L.head+j:Nat):Int)=(L.head:Int)+(j:Int) by omega] at qL;refine qL.mono ?_;rintro e wa2 ⟨v2,rfl,l,a⟩;obtain⟨a2,c2,rfl,zN,_,_⟩:=l.src;rw [aK] at zN⊢;have apP:=a.size;obtain⟨x2,K,bD,aA,iP⟩:=ri (B:=wr.heap.size) (show Own wa2 wr.heap.size x1 ([] ++ bB 4 L.ep) from Z.o.later a) c2 zN (by omega) (by simp [aK]) (by omega);have apQ:=iP.size;have ad4:=yh bD;have VT:=yh aA;have dP:Yh (bW wr K):=cQ.o.trans ((a.mono (by omega)).trans iP);clear qL l a zN bD aA iP;go_wp2_with (at_builtin;refine br rfl _ _ 22 rfl x1 (.slice a2 4 c2) _ rfl rfl ad4.o ?_);have N9:=lJ j 2 K (by omega) (by omega);rw [show (((2:Nat)):Int)=2 from rfl] at N9;refine N9.mono ?_;rintro e wa3 ⟨v3,rfl,l,a⟩;obtain⟨a3,O,rfl,zN,_,_⟩:=l.src;rw [aK] at zN⊢;have apS:=a.size;obtain⟨x3,N,bD,aA,iP⟩:=ri (B:=wr.heap.size) (show Own wa3 wr.heap.size x2 ([] ++ bB 4 L.ep ++ bB 4 (L.head+j)) from VT.o.later a) O zN (by omega) (by simp [aK]) (by omega);have apT:=iP.size;have ad5:=yh bD;have HO3:=yh aA;have gd:Yh (bW wr N):=dP.o.trans ((a.mono (by omega)).trans iP);clear N9 l a zN bD aA iP;go_wp2_with (at_builtin;refine br rfl _ _ 22 rfl x2 (.slice a3 2 O) _ rfl rfl ad5.o ?_);have Oj:=lJ C 2 N (by omega) (by omega);rw [show (((2:Nat)):Int)=2 from rfl] at Oj;refine Oj.mono ?_;rintro e wa4 ⟨v4,rfl,l,a⟩;obtain⟨a4,c4,rfl,zN,_,_⟩:=l.src;rw [aK] at zN⊢;have apV:=a.size;obtain⟨x4,wb4,bD,aA,iP⟩:=ri (B:=wr.heap.size) (show Own wa4 wr.heap.size x3 ([] ++ bB 4 L.ep ++ bB 4 (L.head+j) ++ bB 2 j) from HO3.o.later a) c4 zN (by omega) (by simp [aK]) (by omega);have apX:=iP.size;have GZ:=yh bD;have HO4:=yh aA;have jU:Yh (bW wr wb4):=gd.o.trans ((a.mono (by omega)).trans iP);clear Oj l a zN bD aA iP;obtain⟨x5,m,bD,aA,iP⟩:=ri (B:=wr.heap.size) HO4.o (c-j*492) (HSP.o.later jU.o) (by omega) (by simp [aK];omega) (by omega);have G0:=yh bD;have HO5:Yh (Own m wr.heap.size x5 (kO L.ep (L.head+j) j C (partOf d j))):=by
    refine yh ?_;unfold kO;simpa [List.append_assoc] using aA
   have jq:Yh (bW wr m):=jU.o.trans iP;have pL:=iP.size;have Kg:=RM.o.later jq.o;obtain⟨g2,g3,g6⟩:=kE Kg.c2 Kg.c3 Kg.c6;clear bD aA iP Kg;go_wp2_with (at_builtin;first|refine br rfl _ _ 22 rfl x3 (.slice a4 2 c4) _ rfl rfl GZ.o ?_|refine br rfl _ _ 22 rfl x4 (.slice (some ⟨b,o+j*492,none⟩) (gD x j) (c-j*492)) _ rfl rfl G0.o ?_);have wH:((L.head:Int)+(j:Int)).tmod (L.n:Int)=(((L.head+j)%L.n:Nat):Int):=(by rw [Int.tmod_eq_emod_of_nonneg (by omega),<-Int.natCast_add,<-Int.natCast_emod]);have Sj:((L.head:Int)+(j:Int))%(L.n:Int)=(((L.head+j)%L.n:Nat):Int):=(by rw [<-Int.natCast_add,<-Int.natCast_emod]);have hmd:(L.head+j)%L.n<L.n:=Nat.mod_lt _ (by omega);obtain⟨M,hM⟩:=bQ ((L.head+j)%L.n);rw [<-hM] at wH Sj hmd;have HM:=yh hM;clear hM;go_quiet (fail);have p:=below_drewN (bi m.heap.size m) nq;have A9:=jq.o.trans (p.mono jq.o.size);have MD:=RM.o.later A9;have pE:=sP.o.later A9;have hzq:=p.size;generalize m.drewN nq=w6 at*;have hpj:=(mz (L:=L) (S:=S) (s:=s) (d:=d) (by omega) eE j).2.2.2;have ad8:(cU L S s d j).2.fL:=mx Fn.o (λi T hT=>by
    rw [MC];exact hT.wr s _ _ (wn (my (oD hd _)))) j
   have ml:=bu sP.o.ok (L.f+2+M) (by omega);have mc:=sw (old:=(cU L S s d j).2.now (L.f+2+M)) (body:=kO L.ep (L.head+j) j C (partOf d j)) ml (by rw [vj,J7,UB];omega);have h3:=jM pE (L.f+2+M) (by omega) (by omega);rw [show ((L.f+2+M:Nat):Int)=(L.f:Int)+2+(M:Int) by omega] at h3;obtain⟨g0',W,xu,HO6,Y,U⟩:=jE MD.c0 (yh pE) (yh A9) (yh (HO5.o.later p)) (yh MD) (yh (ad8.now (L.f+2+M)));have E:cU L S s d (j+1)=(cU L S s d j).2.wr s ((L.f+2+M:Nat):Int) 512 (gv ((cU L S s d j).2.now (L.f+2+M)) (kO L.ep (L.head+j) j C (partOf d j))).1:=by
    have:cU L S s d (j+1)=jX (cU L S s d j).2 s L.f L.n L.ep (L.head+j) j (dh d.length) (partOf d j):=jt HE.o;rw [this,MC,UB,X1,<-HM.o]
   have X:=yh E;clear pE A9 MD ad8 E p;go_wp2_with fail;refine h3.mono ?_;rintro e w7 ⟨gn,cn,rfl,hFg,be,Uq⟩;have ajf:=Uq.symm;clear Uq;subst ajf;obtain⟨a7,c7,NT,Mq,_,_⟩:=HO6.o.src;subst NT;have ie:=be.src;rw [ml] at ie;have h4:=qO (some (aD gn 0)) 512 cn ((cU L S s d j).2.now (L.f+2+M)) a7 _ c7 (kO L.ep (L.head+j) j C (partOf d j)) w6 ie Mq (my (oD hd _)) U.o;rw [mc.1] at h4;clear h3 be ie Mq;go_wp2_with fail;refine h4.mono ?_;rintro e w8 ⟨v8,rfl,I,BN⟩;obtain⟨a8,c8,rfl,Jd,_,_⟩:=I.src;have h5:=iE (W.o.later BN) ((L.f+2+M:Nat):Int) a8 _ c8 _ Jd (by omega);rw [mc.2,<-X.o,show ((L.f+2+M:Nat):Int)=(L.f:Int)+2+(M:Int) by omega] at h5;rw [mc.2];have ap3:=(Y.o.later BN).c0;have Yd:=yh (xu.o.trans (BN.mono xu.o.size));have hz8:=BN.size;clear h4 I Jd BN;go_wp2_with fail;refine fR h5 λw9 A A6=>?_;have hz9:=A6.size;have G:=A.mono (λi g=>by
    rcases g with (g|g)|g
    .exact .inl g
    .exact .inr ⟨g.1,by omega⟩
    .exact .inr ⟨by omega,g.2⟩) (cJ (F:=F) (w:=R) (λi g=>by have:=iK.o i g;omega) (by omega))
   have Kh:=(CV.o.trans (aa.ah (λ_=>False) Yd.o) (λ_ h=>h.elim)).trans A6 (λi g=>by
    rcases g with g|g
    .exact .inl g
    .exact .inr g.1)
   obtain⟨Py,I9⟩:=bU G Kh;clear A A6 h5 G Kh;by_cases v:(cU L S s d (j+1)).1=0
   .have d9:((cU L S s d (j+1)).1 == 0)=true:=(by rw [beq_iff_eq];exact v);have y:=yh v;clear v;go_wp2;go_roundw;case rel=>exact⟨j+1,by omega,by go_num,y.o,Py.o,I9.o⟩
    case measure=>simp [intOf];omega
   .have d9:((cU L S s d (j+1)).1 == 0)=false:=(by rw [fJ];exact v);have e2:cU L S s d C=cU L S s d (j+1):=gC v C (by omega);have t:P=((cU L S s d (j+1)).1,(cU L S s d (j+1)).2,L):=(by rw [HP.o,e2,aG v]);have y:=yh t;clear v e2 t;go_wp2;go_ret;rw [y.o];exact⟨rfl,Py.o.from iK.o eu (by omega),Vx.o.aw I9.o hF,((aa.ah F fd.o).trans I9.o (λ_ h=> .inl h)).mono (λ_ h=> .inl h)⟩
  .obtain rfl:j=C:=(by omega);have wj:¬(j:Int)<(j:Int):=(by omega);have c6:=BK.c6;have f6:=BK.fz 6;have t:P=(0,(cU L S s d j).2,{L with head:=L.head+j}):=(by rw [HP.o,aB (by rw [HE.o];decide)]);have y:=yh t;have ew:aa (λi=>i=k) wr (wr.setCell ⟨k,6,none⟩ (.int .i64 ((L.head:Int)+(j:Int)))):=aL (F:=λi=>i=k) _ rfl 6 _;have H:cK (wr.setCell ⟨k,6,none⟩ (.int .i64 ((L.head:Int)+(j:Int)))) k r {L with head:=L.head+j}:=(heap_setCell_same _ _ 6 _ _ _ BK).trans (by simp);have HZ:=yh (aH (sP.o.sS (w:=w) (k:=k) iK.o ew hF (by omega) eu Ae) (aH H ((((aa.ah F fd.o).trans CV.o (λ_ h=> .inl h)).mono (λ_ h=> .inl h):aa (λi=>F i\/i=k) w wr).trans ew (λ_ h=> .inl (.inr h)))));clear t ew H BK;go_wp2;go_ret;rw [y.o];exact⟨rfl,HZ.o⟩
end
end
section
section
variable {w w':World} {F G:Nat->Prop} {r s k:Nat} {S:DS} {L:LG}
def KJ (h:aC w F r s S) (A:cK w k r L) (q:L.Ok s) (a:Option Addr) (x c:Nat) (J:x<=140737488355328) (d:L.fW S x≠0):
  Calls prog 141 #[pQ k, .slice a x c] w λe w'=>e= .returned (iV (L.fW S x))/\bW w w':=by
 have b:=lY h A;have f:=λwx=>sT x wx J;obtain⟨i,I,ef,mO⟩:=cO (yh A) q.hi q.th q.n2;unfold LG.fW at d⊢;clear h A q;by_cases g:L.bj S=0
 .simp only [aB (λh:¬L.bj S=0=>h g)] at d⊢;rw [g] at b;clear g;by_cases t:x=0
  .simp only [aG t];have E:((x:Int) == 0)=true:=(by rw [beq_iff_eq];omega);clear d t;go_in;go_wp2_with fail;refine bM b λw1 ar=>?_;have cq:=i.o.later ar;obtain⟨l,m,p⟩:=kE cq.c3 cq.c5 cq.c6;clear b;go_wp2_with fail;refine(f _).mono ?_;rintro e y ⟨rfl,dE⟩;have eG:=dE.symm;subst eG;have cQ:=yh ar;clear f dE ar cq;go_wp2;go_ret;exact⟨rfl,cQ.o⟩
  .simp only [aB t] at d⊢;have E:((x:Int) == 0)=false:=(by rw [fJ];omega);clear t;by_cases u:8364<x
   .simp only [aG u];have G:(8364:Int)<(x:Int):=(by omega);clear d u;go_in;go_wp2_with fail;refine bM b λw1 ar=>?_;have cq:=i.o.later ar;obtain⟨l,m,p⟩:=kE cq.c3 cq.c5 cq.c6;clear b;go_wp2_with fail;refine(f _).mono ?_;rintro e y ⟨rfl,dE⟩;have eG:=dE.symm;subst eG;have cQ:=yh ar;clear f dE ar cq;go_wp2;go_ret;exact⟨rfl,cQ.o⟩
   .simp only [aB u] at d⊢;have G:¬(8364:Int)<(x:Int):=(by omega);clear u;have pf:dh x=(x+491) / 492:=rfl;by_cases v:1073741824<L.head+dh x
    .simp only [aG v];clear d;obtain⟨C,j⟩:=bQ ((x+491) / 492);have Qb:C<=17:=(by omega);have H:(1073741824:Int)<(L.head:Int)+(C:Int):=(by omega);have z:=yh j;clear v pf j;go_in;go_wp2_with fail;refine bM b λw1 ar=>?_;have cq:=i.o.later ar;obtain⟨l,m,p⟩:=kE cq.c3 cq.c5 cq.c6;clear b;go_wp2_with fail;refine(f _).mono ?_;rintro e y ⟨rfl,dE⟩;have eG:=dE.symm;subst eG;rw [<-z.o];have cQ:=yh ar;clear f dE ar cq;go_wp2;go_ret;exact⟨rfl,cQ.o⟩
    .simp only [aB v] at d⊢;by_cases D:L.tail+L.n<L.head+dh x
     .simp only [aG D];clear d;obtain⟨C,j⟩:=bQ ((x+491) / 492);have Qb:C<=17:=(by omega);have H:¬(1073741824:Int)<(L.head:Int)+(C:Int):=(by omega);have M:(L.n:Int)-((L.head:Int)-(L.tail:Int))<(C:Int):=(by omega);have z:=yh j;clear v D pf j;go_in;go_wp2_with fail;refine bM b λw1 ar=>?_;have cq:=i.o.later ar;obtain⟨l,m,p⟩:=kE cq.c3 cq.c5 cq.c6;clear b;go_wp2_with fail;refine(f _).mono ?_;rintro e y ⟨rfl,dE⟩;have eG:=dE.symm;subst eG;rw [<-z.o];have cQ:=yh ar;clear f dE ar cq;go_wp2_with fail;go_quiet (fail);go_wp2;go_ret;exact⟨rfl,below_drewN cQ.o _⟩
     .exact absurd (aB D) d
 .simp only [aG (λh=>g h:¬L.bj S=0)];have K:(L.bj S == 0)=false:=by rw [fJ];exact g
  clear d g;go_in;go_wp2_with fail;refine bM b λw1 ar=>?_;have cq:=i.o.later ar;obtain⟨l,m,p⟩:=kE cq.c3 cq.c5 cq.c6;clear b;go_wp2_with fail;refine(f _).mono ?_;rintro e y ⟨rfl,dE⟩;have eG:=dE.symm;subst eG;have cQ:=yh ar;clear f dE ar cq;go_wp2;go_ret;exact⟨rfl,cQ.o⟩
def wN (h:aC w F r s S) (i:cK w k r L) (n:L.Ok s) (p:¬F k) (dD:S.fL) (a:Option Addr) (x c:Nat) (d:List Int) (l:Src w a x d) (Uw:∀y,a=some y->0<x->¬F y.block) (hd:Bytes d) (m:x<=c) (q:x<=140737488355328) (aU:S.puts.length+100<=4000000000000):
  Calls prog 141 #[pQ k, .slice a x c] w λe w'=>e= .returned (iV (L.append S s d).1)/\aC w' (more F w w') r s (L.append S s d).2.1/\cK w' k r (L.append S s d).2.2/\aa (λj=>F j\/j=k) w w':=by
 by_cases f:L.fW S x=0
 .have jI:=(jJ f).2.1;obtain⟨b,o,rfl⟩:=cX l jI;exact KI h i n p dD b o x c d l (Uw _ rfl jI) hd m f aU
 .refine(KJ h i n a x c q f).mono ?_;rintro e w' ⟨rfl,g⟩;unfold LG.append;rw [l.1,aG f];exact⟨rfl,(h.later g).more,i.later g,aa.ah _ g⟩
end
end
section
section
variable {w w' w1 w2:World} {F X Y:Nat->Prop} {r s k kl t hm:Nat} {S:DS} {G:SG} {T:TG} {L:LG} {v u pv nv tv:Value} {ps qs us:List (Nat×List Int)} {xs ys:List Value}
def PL.aea (h:PL w X v ps xs) {o:Obj} {b:Nat} (A:ay w 5 g c (bs l)) (z:l.length=512/\Bytes l)
    (aA:w2.ownsRow 0 166 2 (.slice (some (aD g2 0)) (ps.length+1) cz) (ps.length+1) (xs ++ [iV (b:Int), .slice (some (aD g 0)) 512 c]))
    (aR:(w.alloc o).grownBy w2 v.ownBlock) (x:∀i (_hi:i<ps.length) f c',xs[2*i+1]? =some (.slice (some (aD f 0)) 512 c')->Y f) (n:Y g) (m:Y g2):
  PL w2 Y (.slice (some (aD g2 0)) (ps.length+1) cz) (ps ++ [(b,l)]) (xs ++ [iV (b:Int), .slice (some (aD g 0)) 512 c])/\aa (λj=>v.ownBlock=some j) w w2:=by
 have YU:(w.alloc o).heap.size=w.heap.size+1:=by simp
 have jC:=aR.size;have d:=λj a p=>(aR.block j (by omega) p).trans (Below.heap_alloc _ _ _ a);have Mn:∀j c r,ay w 5 j c r->ay w2 5 j c r:=λj c r a=>by
  have AZ:=a;obtain⟨cur,gW,_⟩:=AZ;exact a.agree (d j a.lt (λe=>dS h.own e.symm gW (by decide) rfl))
 have IV:=h.own.1;refine⟨⟨by rw [ed];exact aA,λj a=>?_,λi y=>?_,λq k=>?_⟩,⟨aR.os,aR.tape,aR.output,by omega,λj a p=>d j a (λe=>p e.symm)⟩⟩
 .have e:j=g2:=by simpa [Value.ownBlock] using a.symm
  rw [e];exact m
 .by_cases ny:i<ps.length
  .obtain⟨f,c',t,s,C,u⟩:=h.put i ny;refine⟨f,c',?_,?_,x i ny f c' s,?_⟩
   .rw [List.getElem?_append_left (by omega),t,List.getElem_append_left ny]
   .rw [List.getElem?_append_left (by omega),s]
   .rw [List.getElem_append_left ny];exact Mn _ _ _ u
  .have Fd:i=ps.length:=(by simp at y;omega);subst Fd;refine⟨g,c,?_,?_,n,?_⟩
   .rw [List.getElem?_append_right (by omega),show 2*ps.length-xs.length=0 by omega];simp
   .rw [List.getElem?_append_right (by omega),show 2*ps.length+1-xs.length=1 by omega];simp
   .simpa using Mn _ _ _ A
 .rcases List.mem_append.1 k with k|k
  .exact h.len q k
  .rw [List.mem_singleton.1 k];exact z
def Pn (w:World) (X:Nat->Prop) (B:Nat) (v:Value) (ps:List (Nat×List Int)):Prop:=
 ∃xs,PL w (λj=>X j\/v.ownBlock=some j) v ps xs/\(∀g,v.ownBlock=some g->B<=g)/\∀i (_:i<ps.length) g c,xs[2*i+1]? =some (.slice (some (aD g 0)) 512 c)->X g
def Pn.nil (w:World) (X:Nat->Prop) (B:Nat):Pn w X B (.slice none 0 0) []:=by
 obtain⟨xs,h⟩:=Pl.nil w (λj=>X j\/(Value.slice none 0 0).ownBlock=some j);exact⟨xs,h,λg e=>by simp [Value.ownBlock] at e,λi a=>by simp at a⟩
def Pn.pl {B:Nat} (h:Pn w X B v ps):Pl w (λj=>X j\/v.ownBlock=some j) v ps:=by obtain⟨xs,h,_⟩:=h;exact⟨xs,h⟩
def Pn.lo {B:Nat} (h:Pn w X B v ps):∀g,v.ownBlock=some g->B<=g:=by obtain⟨xs,_,h,_⟩:=h;exact h
def Pn.aw {B:Nat} {Z:Nat->Prop} (h:Pn w X B v ps) (e:aa Z w w') (f:∀g,v.ownBlock=some g->¬Z g) (hd:∀g c ys,(X g\/v.ownBlock=some g)->ay w 5 g c ys->¬Z g):Pn w' X B v ps:=by
 obtain⟨xs,a,b,d⟩:=h;exact⟨xs,a.aw e f hd,b,d⟩
def Pn.later {B:Nat} (h:Pn w X B v ps) (a:bW w w'):Pn w' X B v ps:=h.aw (aa.ah (λ_=>False) a) (λ_ _ h=>h) (λ_ _ _ _ _ h=>h)
def Pn.aeb {B:Nat} (h:Pn w X B v ps) {b:Nat} (n:X g) (u:ay w 5 g c (bs l)) (r:l.length=512/\Bytes l) (z:ps.length<=1000000) (y:B<=w.heap.size):
  ∃g2 cz w2,(Builtin.append_ #[126,126] 126 #[v, .slice (some (aD w.heap.size 0)) 1 1]).run prog (w.alloc (.cells #[.int .i64 (b:Int), .slice (some ⟨g,0,none⟩) 512 c] 166))= .ok (.slice (some (aD g2 0)) (ps.length+1) cz) w2/\Pn w2 X B (.slice (some (aD g2 0)) (ps.length+1) cz) (ps ++ [(b,l)])/\aa (λj=>v.ownBlock=some j) w w2:=by
 obtain⟨xs,a,o,k⟩:=h;obtain⟨x,rH,gB,dC,eu⟩:=info_parts qd;obtain⟨g2,cz,w2,bD,aA,aR,is,bq⟩:=run_append_lies (P:=prog) (w.alloc (.cells #[.int .i64 (b:Int), .slice (some ⟨g,0,none⟩) 512 c] 166)) 126 126 0 166 x _ 2 32 underlying126 rH gB dC eu rfl (by omega) v ps.length xs (aF a.own (λj e=>Below.heap_alloc w _ _ (qf a.own e))) (aD w.heap.size 0) 1 1 [iV (b:Int), .slice (some (aD g 0)) 512 c] (by rfl) (World.news_of_block (cs:= #[iV (b:Int), .slice (some (aD g 0)) 512 c]) (t:=166) (fr:=(0,0)) (heap_alloc_new w _)) (by simp [Value.oneCell']) (by omega) (by unfold maxLen;omega) (by omega) (dV _) (w.heap.size+1) (by simp);obtain⟨s,q⟩:=a.aea (Y:=λj=>X j\/(Value.slice (some (aD g2 0)) (ps.length+1) cz).ownBlock=some j) u r aA aR (λi f d c' e=> .inl (k i f d c' e)) (.inl n) (.inr rfl);have IV:=a.own.1;refine⟨g2,cz,w2,bD,⟨_,s,λj p=>?_,λi f d c' e=>?_⟩,q⟩
 .have e:j=g2:=by simpa [Value.ownBlock] using p.symm
  rcases is with m|m
  .rw [e];exact o g2 m
  .omega
 .by_cases ny:i<ps.length
  .rw [List.getElem?_append_left (by omega)] at e;exact k i ny d c' e
  .have Fd:i=ps.length:=(by simp at f;omega);subst Fd;rw [List.getElem?_append_right (by omega),show 2*ps.length+1-xs.length=1 by omega] at e;simp at e;rw [<-e.1];exact n
def Ox (d:List Int) (hd:(L.append S s d).2.2.dead (L.append S s d).2.1=false):L.dead S=false:=by
 unfold LG.append at hd;split at hd
 .exact hd
 .rename_i q;cases a:L.dead S
  .rfl
  .exfalso;apply q;unfold LG.fW LG.bj;rw [a];simp
end
end
section
section
variable {S:DS} {s f:Nat} {L:LG} {G:SG}
def nS (h:S.Ok s) (e:f+1<s) (num:Int):(cZ S s f num).2.Ok s/\∀j,f+2<=j->j<s->(cZ S s f num).2.now j=S.now j:=by
 unfold cZ;by_cases a:S.fuse=0
 .rw [aG a];exact⟨h,λ_ _ _=>rfl⟩
 .rw [aB a];by_cases c:(aP (S.now f) (S.now (f+1)) num []).2.2≠0
  .rw [aG c];exact⟨h,λ_ _ _=>rfl⟩
  .rw [aB c];have mR:=fU (S.now f) (S.now (f+1)) num [];have Fj:=kN (S.now f) (S.now (f+1)) num [] (by omega);generalize aP (S.now f) (S.now (f+1)) num []=Y at*;rw [show (f:Int)+(Y.1:Int)=((f+Y.1:Nat):Int) by omega];by_cases d:(S.wr s ((f+Y.1:Nat):Int) 512 Y.2.1).1≠0
   .exact absurd (Rg (by omega) d).2 a
   .rw [aB d];have NL:=tX h a (show f+Y.1<s by omega) Fj;refine⟨rY NL,λj g b=>?_⟩;rw [eY NL b,jK a (by omega),aB (by omega)]
def qw (h:S.Ok s):(L.sync S s).2.Ok s/\(L.sync S s).2.life=S.life/\∀j,j<s->(L.sync S s).2.now j=S.now j:=by
 unfold LG.sync;split
 .exact⟨h,rfl,λ_ _=>rfl⟩
 .exact⟨rY h,fX _ _,λj a=>eY h a⟩
def G1 (h:S.Ok s) (k:L.f+1<s):(L.trim S s).2.1.Ok s/\∀j,L.f+2<=j->j<s->(L.trim S s).2.1.now j=S.now j:=by
 obtain⟨c,_,b⟩:=qw (L:=L) h;obtain⟨g,i⟩:=nS c k ((L.ep:Int)*4294967296+(L.head:Int));unfold LG.trim;split
 .exact⟨c,λj _ e=>b j e⟩
 .split
  .exact⟨c,λj _ e=>b j e⟩
  .split
   .exact⟨g,λj d a=>(i j d a).trans (b j a)⟩
   .exact⟨g,λj d a=>(i j d a).trans (b j a)⟩
def Sk {E P:Nat} (h:S.Ok s) (d:1<=n) (k:f+2+n<=s) (g:l.length<=492):(jX S s f n E P i c l).2.Ok s/\∀j,f+2+n<=j->(jX S s f n E P i c l).2.now j=S.now j:=by
 have:=Nat.mod_lt P d;have a:(kO E P i c l).length<=504:=by rw [vj];omega
 unfold jX;by_cases b:S.fuse=0
 .rw [aG b];exact⟨h,λ_ _=>rfl⟩
 .rw [aB b];exact⟨tX h b (by omega) (sw (bu h (f+2+P%n) (by omega)) a).2,λj e=>by rw [jK b (by omega),aB (by omega)]⟩
def C1 (h:S.Ok s) (o:1<=L.n) (p:L.f+2+L.n<=s) {d:List Int}:∀k,(cU L S s d k).2.Ok s/\∀j,L.f+2+L.n<=j->(cU L S s d k).2.now j=S.now j
 |0=>⟨h,λ_ _=>rfl⟩
 |k+1=>by
  obtain⟨b,g⟩:=C1 h o p (d:=d) k;by_cases e:(cU L S s d k).1=0
  .have a:cU L S s d (k+1)=jX (cU L S s d k).2 s L.f L.n L.ep (L.head+k) k (dh d.length) (partOf d k):=jt e;have t:(partOf d k).length<=492:=(by unfold partOf;rw [List.length_take];omega);obtain⟨q,r⟩:=Sk (n:=L.n) (f:=L.f) (E:=L.ep) (P:=L.head+k) (i:=k) (c:=dh d.length) (l:=partOf d k) b o p t;rw [a];exact⟨q,λj m=>(r j m).trans (g j m)⟩
  .have a:cU L S s d (k+1)=cU L S s d k:=gC e (k+1) (by omega);rw [a];exact⟨b,g⟩
def Ak (h:S.Ok s) (a:1<=L.n) (b:L.f+2+L.n<=s) (d:List Int):(L.append S s d).2.1.Ok s/\∀j,L.f+2+L.n<=j->(L.append S s d).2.1.now j=S.now j:=by
 unfold LG.append;split
 .exact⟨h,λ_ _=>rfl⟩
 .split <;> exact C1 h a b _
end
section
variable {w w':World} {F X:Nat->Prop} {r s k kl t hm:Nat} {S:DS} {G:SG} {pv nv:Value} {ps:List (Nat×List Int)}
def vI {S:DS} {f:Nat} (a:S'.now f=S.now f) (b:S'.now (f+1)=S.now (f+1)):S'.num f=S.num f:=by unfold DS.num;rw [a,b]
def lj.home {y:LY} (h:lj w k r kl y pv hm nv) (n:Nat):lj (w.setCell ⟨k,8,none⟩ (.int .i64 (n:Int))) k r kl y pv n nv:=
   (heap_setCell_same _ _ 8 _ _ _ h).trans (by simp)
def PV.drop (h:PV w X v ps) (n:Nat) (A:n<=ps.length) {b o:Nat} (u:v= .slice (some (aD b o)) ps.length c) (c':Nat):PV w X (.slice (some ⟨b,o+n*2,none⟩) (ps.length-n) c') (ps.drop n):=by
 obtain⟨⟨a,y,d,p⟩,s⟩:=h;rw [u] at d;cases d;refine⟨⟨_,_,by rw [List.length_drop],λh0=>?_⟩,λq t=>s q (List.mem_of_mem_drop t)⟩;rw [List.length_drop] at h0;obtain⟨z,C,e,x,r⟩:=p (by omega);cases e;refine⟨b,o+n*2,rfl,x,λi bq=>?_⟩;rw [List.length_drop] at bq;obtain⟨g,f,j,k,l,m⟩:=r (n+i) (by omega);refine⟨g,f,?_,?_,l,?_⟩
 .rw [List.getElem_drop,show o+n*2+i*2=o+(n+i)*2 by omega];exact j
 .rw [show o+n*2+i*2+1=o+(n+i)*2+1 by omega];exact k
 .rw [List.getElem_drop];exact m
def iL.checked (h:iL w F X r s S k kl G pv ps hm nv) (du:S.Ok s):∃hm',hm'<=ps.length/\(hm'=if (G.check S s).1=0 then ps.length else hm)/\(G.check S s).2.2.ov=CM.bT [] (ps.drop hm')/\(G.check S s).2.2.y=G.y/\(G.check S s).2.2.L.f=G.L.f/\(G.check S s).2.2.L.n=G.L.n/\(G.check S s).2.1.Ok s/\
    ((G.check S s).2.2.L.dead (G.check S s).2.1=false->∀b,b<G.y.blocks->CM.get (G.check S s).2.2.ov b=none->∀c,jB ps b=some c->(G.check S s).2.1.now (G.y.home+b)=c):=by
 have Eo:∀q∈G.ov,G.y.home+q.1<s/\q.2.length=512:=λq o=>by
  rw [h.ov] at o;have:=List.mem_of_mem_drop (eS o);exact⟨by have:=h.kb q this;have:=h.hs;omega,(h.pl.len q this).1⟩
 have g:CM.Ok G.ov:=by rw [h.ov];exact mH _
 have BO:=h.lh;have XU:=h.hs;have I:∀b,CM.get G.ov b=jB (ps.drop hm) b:=λb=>by rw [h.ov];exact gZ _ _
 have J:∀b,jB ps b=(jB (ps.drop hm) b).or (jB (ps.take hm) b):=λb=>by rw [<-l8,List.take_append_drop]
 obtain⟨p,K,D⟩:=qw (L:=G.L) du;obtain⟨M,N,x,E,H⟩:=eC (h0:=G.y.home) (ms:=G.ov) p Eo;obtain⟨z,A⟩:=G1 (L:=G.L) x (by omega);have YZ:=h.un;have u:(G.L.sync S s).1=0->G.L.dead S=false:=λa=>by
  unfold LG.sync at a;split at a
  .rename_i q;exact absurd a q
  .rename_i q;unfold LG.bj at q;cases hd:G.L.dead S
   .rfl
   .rw [hd] at q;simp at q
 have is:=λ(b:Nat) (c:List Int)=>CY (b:=b) (c:=c) p g Eo;have DB:(G.L.sync S s).1≠0->(G.L.sync S s).2=S:=λa=>by
  unfold LG.sync at a⊢;split
  .rfl
  .rename_i q;rw [aB q] at a;exact(lu a).1
 unfold SG.check;generalize G.L.sync S s=Z at*;by_cases j:Z.1≠0
 .rw [aG j];refine⟨hm,h.hm,by rw [aB j],h.ov,rfl,rfl,rfl,p,?_⟩;rw [DB j];exact YZ
 .rw [aB j];generalize aE Z.2 s G.y.home G.ov=Y at*;by_cases l:Y.1≠0
  .rw [aG l];refine⟨hm,h.hm,by rw [aB l],h.ov,rfl,rfl,rfl,x,λhd=>?_⟩;have:=E l;unfold LG.dead at hd;rw [this] at hd;simp at hd
  .rw [aB l];have lQ:∀b,b<G.y.blocks->CM.get G.ov b=none->∀c,jB ps b=some c->(G.L.trim Y.2 s).2.1.now (G.y.home+b)=c:=λb t d c i=>by
    rw [A _ (by omega) (by omega),H _ (λq o e=>?_),D _ (by omega)]
    .exact YZ (u (Decidable.not_not.1 j)) b t d c i
    .have:q.1=b:=(by omega);have C:=CM.get_of_mem g (k:=q.1) (c:=q.2) o;rw [this,d] at C;cases C
   have m:(G.L.trim Y.2 s).2.2.f=G.L.f/\(G.L.trim Y.2 s).2.2.n=G.L.n:=by
    unfold LG.trim;split
    .exact⟨rfl,rfl⟩
    .split
     .exact⟨rfl,rfl⟩
     .split <;> exact⟨rfl,rfl⟩
   by_cases v:(G.L.trim Y.2 s).1≠0
   .rw [aG v];exact⟨hm,h.hm,by rw [aB v],h.ov,rfl,m.1,m.2,z,λ_=>lQ⟩
   .rw [aB v];refine⟨ps.length,bS _,by rw [aG rfl],?_,rfl,m.1,m.2,z,λ_ b t _ c i=>?_⟩
    .rw [List.drop_length];rfl
    .cases d:CM.get G.ov b with
     |none=>exact lQ b t d c i
     |some c'=>
      have:c'=c:=by
       rw [J,<-I,d] at i;exact Option.some.inj i
      subst this;show (G.L.trim Y.2 s).2.1.now (G.y.home+b)=c';rw [A _ (by omega) (by omega)];exact is b c' (Decidable.not_not.1 l) d
end
end
end Go.Proofs.YtcpdggdfihjhoabGreat
