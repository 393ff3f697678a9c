import Derived.Test.YtkiehemoiapkkaaGreatY01
import Derived.Test.YtkiehemoiapkkaaGreatY06
import Derived.Deep.OwnRows
import Derived.Recover
import Derived.Orders
import Derived.RegionTactic
import Derived.Deep.RegionHeld
import Derived.Deep.RegionWith
import Derived.Deep.RegionLaw
import Derived.Laws.BytesArg
import Derived.Defers
set_option maxRecDepth 20000
set_option maxHeartbeats 8000000
set_option linter.all false
namespace Go.Proofs.YtkiehemoiapkkaaGreat
open Go.Proofs.Tryz
open Go.RowKit Go.Maps
variable {cs:Array Value} {l xs:List Int} {g i k p q:Nat} {F:Nat->Prop} {E:Prop} {w w1 w2 wx:World}
section
theorem CO:(prog.info? 4).map (λi=>(i.zero,i.size,i.bytes))=some (some (.bool false),1,1):=by kernel_rfl
abbrev fK (l:List Bool):List Value:=l.map Value.bool
def BL (w:World) (B:Nat) (v:Value) (l:List Bool):Prop:=w.ownsRow B 4 1 v l.length (fK l)
theorem CP (l:List Bool) (x:Bool):fK l ++ [.bool x]=fK (l ++ [x]):=by simp [fK]
theorem CQ (x:Bool):∀v∈ [Value.bool x],v.oneCell'=true:=λv hv=>by
 rw [List.mem_singleton.1 hv];rfl
theorem Nn (j:Nat):List.replicate j false ++ [false]=List.replicate (j+1) false:=by rw [List.replicate_succ']
theorem Fr (l:List Bool) (k:Nat) (h:k<l.length):l.take k ++ [l.getD k false]=l.take (k+1):=by
 rw [List.take_succ_eq_append_getElem h];simp [List.getD,h]
section
variable {w w':World} {B:Nat} {v:Value} {l:List Bool}
theorem BL.row (h:BL w B v l) (h0:0<l.length):∃g c,v= .slice (some ⟨g,0,none⟩) l.length c/\B<=g/\ao w 4 g c (fK l):=by
 obtain⟨g,c,e,hg,hr,hl⟩:=ao.eQ h (by
  intro e;subst e;obtain⟨_,⟨_,hn⟩|⟨g,c,cur,e,_⟩⟩:=h
  .omega
  .cases e)
 exact⟨g,c,e,hg,hr⟩
theorem ao.nw {g c:Nat} (h:ao w 4 g c (fK l)) {i:Nat} (hi:i<l.length):w.cell? ⟨g,i,none⟩=some (.bool (l.getD i false)):=h.cell (by simp [fK,List.getD,List.getElem?_eq_getElem hi])
theorem oq (w:World):Calls prog 30 #[] w λe w'=>∃v,e= .returned v/\BL w' w.heap.size v (List.replicate 4096 false)/\Below w.heap.size w w':=by
 obtain⟨i0,zo,iX,eR,eE⟩:=info_parts CO;obtain⟨N,hN⟩:∃N:Nat,N=4096:=⟨_,rfl⟩;rw [<-hN];have HN:=yh hN;clear hN;go_enter func30,ntmps30;go_wp2;go_loopw [1,2] (λu i wr=>∃j:Nat,j<=N/\i= .int .i64 (j:Int)/\wr.ownsRow w.heap.size 4 1 u j (fK (List.replicate j false))/\Below w.heap.size w wr) (λ_ i _=>N-(intOf i).toNat);case atStart=>exact⟨0,Nat.zero_le _,rfl,⟨by simp [fK], .inl ⟨rfl,rfl⟩⟩,Below.refl _ _⟩
 case round=>
  obtain⟨j,hj,rfl,aU,hb⟩:=hrel;have IY:=hb.size;by_cases aS:j<N
  .have cH:(j:Int)<4096:=(by have:=HN.o;omega);have hj4:j<4096:=(by have:=HN.o;omega);have tT:=aU;go_wp2_with (at_builtin;refine wpList_append_own _ rfl _ _ 66 rfl w.heap.size 4 i0 (.bool false) 1 1 underlying66 zo iX eR eE rfl (by decide) _ _ _ rfl (tT.alloc _) ⟨wr.heap.size,0,none⟩ 1 1 [.bool false] rfl rfl (cell_one_new _ _ _) (CQ false) (by unfold maxLen;omega) (by omega) (by simp;omega) ?_);intro v' w3 cK bS lZ;have sf:=λq e=>(aU.lt q e).1;have bH:=(hb.alloc (by omega) _).grown bS (by simp;omega) (λq e=>sf q e);have g9:w3.ownsRow w.heap.size 4 1 v' (j+1) (fK (List.replicate (j+1) false)):=by
    rw [<-Nn,<-CP];simpa [fK] using cK
   go_wp2;go_roundw;case rel=>exact⟨j+1,by omega,by go_num,g9,bH⟩
   case measure=>simp [intOf];omega
  .have cH:¬(j:Int)<4096:=(by have:=HN.o;omega);obtain rfl:j=N:=(by omega);have HZ:=yh (And.intro aU hb);clear aU hb;go_wp2;go_ret;refine⟨_,rfl,?_,HZ.o.2⟩;unfold BL;rw [List.length_replicate];exact HZ.o.1
theorem vC {g c:Nat} (h:ao w 4 g c (fK l)) (hl:l.length<=4096):Calls prog 144 #[.slice (some ⟨g,0,none⟩) l.length c] w λe w'=>∃v,e= .returned v/\BL w' w.heap.size v l/\Below w.heap.size w w':=by
 obtain⟨i0,zo,iX,eR,eE⟩:=info_parts CO;obtain⟨n,hn⟩:∃n,n=l.length:=⟨_,rfl⟩;rw [<-hn];have HL:=yh hn;have hg:=h.lt;have H:=yh h;rw [<-hn] at hl;clear h hn;go_enter func144,ntmps144;go_wp2;go_loopw [3,4] (λu i wr=>∃j:Nat,j<=n/\i= .int .i64 (j:Int)/\wr.ownsRow w.heap.size 4 1 u j (fK (l.take j))/\Below w.heap.size w wr) (λ_ i _=>n-(intOf i).toNat);case atStart=>exact⟨0,Nat.zero_le _,rfl,⟨by simp [fK], .inl ⟨rfl,rfl⟩⟩,Below.refl _ _⟩
 case round=>
  obtain⟨j,hj,rfl,aU,hb⟩:=hrel;have IY:=hb.size;by_cases aS:j<n
  .have cH:(j:Int)<(n:Int):=(by omega);have h0:(0:Int)<=(j:Int):=(by omega);have XK:j<l.length:=(by have:=HL.o;omega);have hc:wr.cell? ⟨g,j,none⟩=some (.bool (l.getD j false)):=cell_later hb (H.o.nw XK);have tT:=aU;obtain⟨x,hx⟩:∃x,x=l.getD j false:=⟨_,rfl⟩;rw [<-hx] at hc;have HX:=yh hx;clear hx;go_wp2_with (at_builtin;refine wpList_append_own _ rfl _ _ 66 rfl w.heap.size 4 i0 (.bool false) 1 1 underlying66 zo iX eR eE rfl (by decide) _ _ _ rfl (tT.alloc _) ⟨wr.heap.size,0,none⟩ 1 1 [.bool x] rfl rfl (cell_one_new _ _ _) (CQ x) (by unfold maxLen;omega) (by omega) (by simp;omega) ?_);intro v' w3 cK bS lZ;have sf:=λq e=>(aU.lt q e).1;have bH:=(hb.alloc (by omega) _).grown bS (by simp;omega) (λq e=>sf q e);have g9:w3.ownsRow w.heap.size 4 1 v' (j+1) (fK (l.take (j+1))):=by
    rw [<-Fr l j XK,<-HX.o,<-CP,fK,List.map_take];exact cK
   go_wp2;go_roundw;case rel=>exact⟨j+1,by omega,by go_num,g9,bH⟩
   case measure=>simp [intOf];omega
  .have cH:¬(j:Int)<(n:Int):=(by omega);obtain rfl:j=n:=(by omega);have HZ:=yh (And.intro aU hb);clear aU hb;go_wp2;go_ret;refine⟨_,rfl,?_,HZ.o.2⟩;unfold BL;have e:=HZ.o.1;rw [HL.o,List.take_of_length_le (Nat.le_refl _)] at e;exact e
end
end
section
def nE (l:List Bool) (a:Nat):Nat->Nat
 |0=>0
 |c+1=>2*nE l a c+(if l.getD (a+7-c) false then 1 else 0)
theorem um (l:List Bool) (a:Nat):∀c,nE l a c<2 ^ c
 |0=>by show 0<1;omega
 |c+1=>by
  have:=um l a c;show 2*nE l a c+_<2 ^ (c+1);rw [Nat.pow_succ];split <;> omega
def dB (l:List Bool):List Int:=(List.range 512).map λi=>(nE l (8*i) 8:Int)
theorem ck (l:List Bool):(dB l).length=512:=by simp [dB]
theorem yB (l:List Bool) (i:Nat) (hi:i<512):(dB l).getD i 0=(nE l (8*i) 8:Int):=by
 simp [dB,List.getD,hi]
theorem Ug (l:List Bool) (i:Nat) (hi:i<512):(dB l).take i ++ [(nE l (8*i) 8:Int)]=(dB l).take (i+1):=by
 rw [<-yB l i hi];exact xJ _ _ (by rw [ck];exact hi)
theorem gI {z:Int} (h0: -4611686018427387904<=z) (h1:z<=4611686018427387904):wrap64 z=z:=by
 unfold wrap64;omega
theorem No {j k x:Nat} (hj:j<512) (hk:k<8) (hx:x<128):∃(z:Nat) (K K1 X2 X3:Int),K=7-(k:Int)/\K1=7-((k+1:Nat):Int)/\X2=((2*x+0:Nat):Int)/\X3=((2*x+1:Nat):Int)/\z=8*j+7-k/\z<4096/\(z:Int)<4096/\(0:Int)<=(z:Int)/\(0:Int)<=K/\wrap64 (2*(x:Int))=X2/\wrap64 (8*(j:Int)+K)=(z:Int)/\wrap64 (X2+1)=X3/\wrap64 (K-1)=K1:=
   ⟨8*j+7-k,7-(k:Int),7-((k+1:Nat):Int),((2*x+0:Nat):Int),((2*x+1:Nat):Int),rfl,rfl,rfl,rfl,rfl,by omega,by omega,by omega,by omega,(gI (by omega) (by omega)).trans (by omega),(gI (by omega) (by omega)).trans (by omega),(gI (by omega) (by omega)).trans (by omega),(gI (by omega) (by omega)).trans (by omega)⟩
theorem H8 {K K1:Int} {k:Nat} (h:K=7-(k:Int)) (h1:K1=7-((k+1:Nat):Int)) (h0:0<=K):(K1+1).toNat<(K+1).toNat:=by omega
theorem QQ {l:List Bool} {a k x z:Nat} (hx:x=nE l a k) (hz:z=a+7-k):nE l a (k+1)=2*x+(if l.getD z false then 1 else 0):=by
 rw [hx,hz];rfl
theorem Np {l:List Bool} {a k x:Nat} (hx:x=nE l a k) (hk:k<8):x<128:=by
 have h1:=um l a k;have hp:2 ^ k<=2 ^ 7:=Nat.pow_le_pow_right (by omega) (by omega);omega
theorem QR {l:List Bool} {a x:Nat} (hx:x=nE l a 8):x<256/\(x:Int)%256=(x:Int):=by
 have h1:=um l a 8;omega
section
variable {w:World} {l:List Bool}
theorem qp {g c:Nat} (h:ao w 4 g c (fK l)) (hl:l.length=4096):Calls prog 34 #[.slice (some ⟨g,0,none⟩) 4096 c] w λe w'=>∃v,e= .returned v/\Own w' w.heap.size v (dB l)/\Below w.heap.size w w':=by
 obtain⟨i0,zo,iX,eR,eE⟩:=info_parts gU;have hg:=h.lt;have H:=yh h;obtain⟨N,hN⟩:∃N:Nat,N=512:=⟨_,rfl⟩;have HN:=yh hN;have HL:=yh hl;clear h hN hl;go_enter func34,ntmps34;go_wp2;go_loopw [3,4] (λu i wr=>∃j:Nat,j<=N/\i= .int .i64 (j:Int)/\wr.ownsRow w.heap.size 5 1 u j (bs ((dB l).take j))/\Below w.heap.size w wr) (λ_ i _=>N-(intOf i).toNat);case atStart=>exact⟨0,Nat.zero_le _,rfl,⟨by simp [bs], .inl ⟨rfl,rfl⟩⟩,Below.refl _ _⟩
 case round=>
  obtain⟨j,hj,rfl,aU,hb⟩:=hrel;have IY:=hb.size;by_cases aS:j<N
  .have cH:(j:Int)<512:=(by have:=HN.o;omega);have hj5:j<512:=(by have:=HN.o;omega);have tT:=yh aU;have HB:=yh hb;clear aU hb
   rename World=>wo
   go_wp2;go_loopw [5,6] (λu i wr=>∃k:Nat,k<=8/\i= .int .i64 (7-(k:Int))/\u= .int .i64 (nE l (8*j) k:Int)/\wr=wo) (λ_ i _=>((intOf i)+1).toNat);case atStart=>exact⟨0,by omega,rfl,rfl,rfl⟩
   case round=>
    obtain⟨k,hk,rfl,rfl,Fe⟩:=hrel;subst Fe;by_cases lN:k<8
    .obtain⟨x,hx⟩:∃x,x=nE l (8*j) k:=⟨_,rfl⟩;rw [<-hx];obtain⟨z,K,K1,X2,X3,hK,Uh,R8,hX3,ez,wt,ahN,iX,Es,w1,w3,w4,w5⟩:=No (x:=x) hj5 lN (Np hx lN);rw [<-hK];have hc:wr.cell? ⟨g,z,none⟩=some (.bool (l.getD z false)):=cell_later HB.o (H.o.nw (by rw [HL.o];exact wt));have HS:Yh (nE l (8*j) (k+1)=2*x+(if l.getD z false then 1 else 0)):=QQ hx ez;have HE:Yh (K=7-(k:Int)/\K1=7-((k+1:Nat):Int)/\X2=((2*x+0:Nat):Int)/\X3=((2*x+1:Nat):Int)):=⟨hK,Uh,R8,hX3⟩;obtain⟨y,hy⟩:∃y,y=l.getD z false:=⟨_,rfl⟩;rw [<-hy] at hc HS;clear hx ez hy hK Uh R8 hX3;cases y
     .go_wp2;go_roundw;case rel=>exact⟨k+1,lN,by rw [w5,HE.o.2.1],by rw [HS.o,w1,HE.o.2.2.1];rfl,trivial⟩
      case measure=>
       rw [w5];exact H8 HE.o.1 HE.o.2.1 Es
     .go_wp2;go_roundw;case rel=>exact⟨k+1,lN,by rw [w5,HE.o.2.1],by rw [HS.o,w4,HE.o.2.2.2];rfl,trivial⟩
      case measure=>
       rw [w5];exact H8 HE.o.1 HE.o.2.1 Es
    .obtain rfl:k=8:=(by omega);have Es:¬(0:Int)<=7-((8:Nat):Int):=(by omega);obtain⟨x,hx⟩:∃x,x=nE l (8*j) 8:=⟨_,rfl⟩;rw [<-hx];obtain⟨ae4,e1⟩:=QR hx;have HX:=yh hx;clear hx;have aU:=tT.o;go_wp2_with (at_builtin;refine wpList_append_own _ rfl _ _ 44 rfl w.heap.size 5 i0 (.int .u8 0) 1 1 underlying44 zo iX eR eE rfl (by decide) _ _ _ rfl (aU.alloc _) ⟨wr.heap.size,0,none⟩ 1 1 [.int .u8 (x:Int)] rfl rfl (cell_one_new _ _ _) (ints_oneCell .u8 [(x:Int)]) (by unfold maxLen;omega) (by omega) (by simp;omega) ?_);intro v' w3 cK bS lZ;have sf:=λq e=>(aU.lt q e).1;have bH:=(HB.o.alloc (by omega) _).grown bS (by simp;omega) (λq e=>sf q e);have g9:w3.ownsRow w.heap.size 5 1 v' (j+1) (bs ((dB l).take (j+1))):=by
      rw [<-Ug l j hj5,<-HX.o,<-GG];simpa [bs] using cK
     clear aU;go_wp2;go_roundw;case rel=>exact⟨j+1,by omega,by go_num,g9,bH⟩
     case measure=>simp [intOf];omega
  .have cH:¬(j:Int)<512:=(by have:=HN.o;omega);obtain rfl:j=N:=(by omega);have HZ:=yh (And.intro aU hb);clear aU hb;go_wp2;go_ret;refine⟨_,rfl,?_,HZ.o.2⟩;unfold Own;have e:=HZ.o.1;rw [List.take_of_length_le (by rw [ck,HN.o];omega)] at e;rw [ck,<-HN.o];exact e
end
end
section
def yC (r:Option Nat×Int×TG) (e:Ending):Prop:=match r.1 with
 |some x=>e= .returned (.int .i64 (x:Int))
 |none=>e= .panicked (iD r.2.1)
theorem CR {k:pg} (hk:k.Ok) {j:Nat} (hj:j<=k.bf):∃(N N1:Int),N=((k.first+j:Nat):Int)/\N1=((k.first+(j+1):Nat):Int)/\(j<k.bf->N<=(k.first:Int)+(k.bf:Int)-1)/\(¬j<k.bf->¬N<=(k.first:Int)+(k.bf:Int)-1)/\wrap64 (N-(k.zero:Int))=((k.first-k.zero+j:Nat):Int)/\wrap64 (N+1)=N1:=by
 have h1:=hk.lo;have h2:=hk.hi;have h3:=hk.z;exact⟨((k.first+j:Nat):Int),((k.first+(j+1):Nat):Int),rfl,rfl,λh=>by omega,λh=>by omega,(gI (by omega) (by omega)).trans (by omega),(gI (by omega) (by omega)).trans (by omega)⟩
theorem As {N N1:Int} {f j c:Nat} (h:N=((f+j:Nat):Int)) (h1:N1=((f+(j+1):Nat):Int)) (h0:j<c):f+c-N1.toNat<f+c-N.toNat:=by omega
section
variable {w w':World} {F:Nat->Prop} {p s cR q l m t n a:Nat} {S:DS} {G:SG} {T:TG}
theorem gR {k:pg} (bw:w.heap[a]? =some (.cells #[.int .i64 (k.bm:Int), .int .i64 (k.zero:Int), .int .i64 (k.first:Int), .int .i64 ((k.first:Int)+(k.bf:Int)-1), .int .i64 k.no] 61 (0,0))):
  w.cell? ⟨a,0,none⟩=some (.int .i64 (k.bm:Int))/\w.cell? ⟨a,1,none⟩=some (.int .i64 (k.zero:Int))/\w.cell? ⟨a,2,none⟩=some (.int .i64 (k.first:Int))/\w.cell? ⟨a,3,none⟩=some (.int .i64 ((k.first:Int)+(k.bf:Int)-1))/\w.cell? ⟨a,4,none⟩=some (.int .i64 k.no):=
   ⟨aa bw (j:=0) rfl,aa bw (j:=1) rfl,aa bw (j:=2) rfl,aa bw (j:=3) rfl,aa bw (j:=4) rfl⟩
theorem Nq (h:TX w F p s cR q l m t n S G T) (hp:ar w F a t n) (k:pg) (h0:T.refusal G S k.bm≠0):
  Calls prog 112 #[.pointer (some ⟨a,0,none⟩),fe k] w λe w'=>e= .panicked (iD (T.refusal G S k.bm))/\TX w' F p s (cR+1) q l m t n S G T/\ad F w w':=by
 have aH:=an w (iE k);have bw:(w.alloc (iE k)).heap[w.heap.size]? =some (.cells #[.int .i64 (k.bm:Int), .int .i64 (k.zero:Int), .int .i64 (k.first:Int), .int .i64 ((k.first:Int)+(k.bf:Int)-1), .int .i64 k.no] 61 (0,0)):=heap_alloc_new _ _;have h1:=Hw (h.later aH) (hp.later aH) k h0;have HB:=yh aH;generalize T.refusal G S k.bm=R at*;clear h hp aH bw h0;unfold iE at*;go_enter func112,ntmps112;go_wp2_with fail;refine h1.mono ?_;rintro e w2 ⟨rfl,dV,aK⟩;exact⟨rfl,rfl,dV,(ad.ag F HB.o).trans aK (λ_ h=> .inl h)⟩
theorem Nr (h:TX w F p s cR q l m t n S G T) (hp:ar w F a t n) (k:pg) (hk:k.Ok) (h0:T.refusal G S k.bm=0):
  Calls prog 112 #[.pointer (some ⟨a,0,none⟩),fe k] w λe w'=>yC (T.dr G S k) e/\TX w' F p s (cR+2) q l m t n S G (T.dr G S k).2.2/\ad (cq F t n) w w':=by
 have aH:=an w (iE k);have bw:(w.alloc (iE k)).heap[w.heap.size]? =some (.cells #[.int .i64 (k.bm:Int), .int .i64 (k.zero:Int), .int .i64 (k.first:Int), .int .i64 ((k.first:Int)+(k.bf:Int)-1), .int .i64 k.no] 61 (0,0)):=heap_alloc_new _ _;have h1:=Ar (h.later aH) (hp.later aH) k h0;have Fs:k.bm<G.y.blocks:=by have:=hk.bm;have:=h.yk.b2;omega
 have hlen:=h.len k.bm Fs;have jS:=h.bytes k.bm;have hR:T.dr G S k=T.CI G S k (bX (T.bq G S k.bm) (k.first-k.zero) k.bf):=by
  unfold TG.dr;rw [if_neg (λhh=>hh h0)]
 obtain⟨R,CS⟩:∃R,R=T.dr G S k:=⟨_,rfl⟩;rw [<-CS] at hR;rw [<-CS];obtain⟨d,hd⟩:∃d,d=T.bq G S k.bm:=⟨_,rfl⟩;rw [<-hd] at hlen jS hR h1;have HD:=yh hd;have HR:=yh hR;have HB:=yh aH;have HP:=yh (hp.later aH);have mI:=yh bw;have iH:=yh h.lt;have XL:=yh h.st.d.lt;have rn:=yh h.low;have gh:=hp.lt;have HPb:=yh hp;have VG:w.heap.size+1=(w.alloc (iE k)).heap.size:=by rw [World.size_alloc]
 have HCZ:=yh VG;clear h hp aH bw h0 hR CS hd Fs VG;unfold iE at*;go_enter func112,ntmps112;go_wp2_with fail;refine h1.mono ?_;rintro e w2 ⟨g,rfl,hg,aA,dV,aK⟩;have tW:¬F w.heap.size:=λhf=>by have:=XL.o _ hf;omega
 have jW:=(aK.block _ (af mI.o) tW).trans mI.o;obtain⟨c0,c1,c2,c3,c4⟩:=gR jW;have HW:Yh (gA w2 113 g d/\TX w2 F p s (cR+1) q l m t n S G T/\ad F w w2/\ar w2 F a t n):=⟨aA,dV,(ad.ag F HB.o).trans aK (λ_ h=> .inl h),HP.o.ak (aK.mono (λ_ h=> .inl h))⟩;have J2:=yh jW;have Sb:w.heap.size<g:=by have:=HCZ.o;omega
 obtain⟨L,hL⟩:∃L:Int,L=(k.first:Int)+(k.bf:Int)-1:=⟨_,rfl⟩;rw [<-hL] at c3;have HL:=yh hL;clear h1 aA dV aK jW hL hg HCZ;go_wp2;go_loopw [6] (λiv wr=>∃j:Nat,j<=k.bf/\iv= .int .i64 ((k.first+j:Nat):Int)/\bX d (k.first-k.zero) k.bf=bX d (k.first-k.zero+j) (k.bf-j)/\wr=w2) (λiv _=>k.first+k.bf-(intOf iv).toNat);case atStart=>exact⟨0,Nat.zero_le _,by simp,rfl,rfl⟩
 case round=>
  obtain⟨j,hj,rfl,me,Fh⟩:=hrel;subst Fh;obtain⟨N,N1,hN,Tr,f1,f2,f3,f4⟩:=CR hk hj;rw [<-hN];rw [<-HL.o] at f1 f2;have HN:=yh (And.intro hN Tr);clear hN Tr;by_cases aS:j<k.bf
  .have g1:=f1 aS;have yD:k.first-k.zero+j<4096:=(by have:=hk.hi;omega);have h3:=qo (c:=512) HW.o.1 hlen jS (k.first-k.zero+j) yD;have Ui:bX d (k.first-k.zero+j) (k.bf-j)=if cy d (k.first-k.zero+j)=false then some (k.first-k.zero+j) else bX d (k.first-k.zero+(j+1)) (k.bf-(j+1)):=by
    rw [show k.bf-j=(k.bf-(j+1))+1 by omega];rfl
   rw [Ui] at me;obtain⟨b,hb⟩:∃b,b=k.first-k.zero+j:=⟨_,rfl⟩;rw [<-hb] at h3 f3 me yD;obtain⟨y,hy⟩:∃y,y=cy d b:=⟨_,rfl⟩;rw [<-hy] at h3 me;have Uj:=yh me;have Hb:=yh hb;clear Ui me f1 f2 hy hb;cases y
   .have o8:bX d (k.first-k.zero) k.bf=some b:=Uj.o;have hR:=HR.o;rw [o8] at hR;have h4:=sL (c:=512) HW.o.1 hlen jS b yD;have qD:=yh hR;clear o8 hR Uj;go_wp2_with fail;refine h3.mono ?_;rintro e w3 ⟨rfl,kB⟩;subst kB;clear h3;go_wp2_with fail;refine h4.mono ?_;rintro e w4 ⟨rfl,eK,dF⟩;have wt:=dF.size;have Ns:TX w4 F p s (cR+1) q l m t n S G T:=HW.o.2.1.side rn.o dF (λz hz=>by omega);have z8:ar w4 F a t n:=⟨(dF.block a HW.o.2.2.2.lt (by omega)).trans HW.o.2.2.2.b,HW.o.2.2.2.nf⟩;have XM:=(dF.block _ (af J2.o) (by omega)).trans J2.o;obtain⟨d0,d1,d2,d3,d4⟩:=gR XM;rw [<-HL.o] at d3;have h5:=rm (c:=512) Ns z8 k eK (jm.trans hlen) (jb jS);have bu:fe k= .agg #[.int .i64 (k.bm:Int), .int .i64 (k.zero:Int), .int .i64 (k.first:Int), .int .i64 L, .int .i64 k.no]:=(by rw [HL.o]);rw [bu] at h5;have KX:Yh (ad (cq F t n) w w4):=(HW.o.2.2.1.mono (λ_ h=> .inl h)).trans dF (λz hz=> .inr (by omega));clear h4 eK dF Ns z8 XM bu;go_wp2_with fail;refine h5.mono ?_;rintro e w5 ⟨iF,rW,cB⟩;have HE:Yh (TX w5 F p s (cR+2) q l m t n S G (T.put G S k.bm (bv d b)).2/\ad (cq F t n) w w5):=⟨rW,KX.o.trans cB (λ_ h=> .inl h)⟩;have HRz:Yh (R=if (T.put G S k.bm (bv d b)).1=0 then (some (b+k.zero),0,(T.put G S k.bm (bv d b)).2) else (none,(T.put G S k.bm (bv d b)).1,(T.put G S k.bm (bv d b)).2)):=by
     have:=qD.o;unfold TG.CI at this;rw [<-HD.o] at this;exact this
    clear rW cB h5;unfold CK at iF;by_cases hr:(T.put G S k.bm (bv d b)).1=0
    .rw [if_pos hr] at iF;have Uk:=HRz.o;rw [if_pos hr] at Uk;have HRe:=yh Uk;subst iF;have IY:N=((b+k.zero:Nat):Int):=by
      have h8:=HN.o.1;have h9:=Hb.o;have Wd:=hk.lo;omega
     have HBz:=yh IY;clear hr Uk IY HRz;go_wp2;go_ret;exact⟨by rw [HRe.o,HBz.o];rfl,by rw [HRe.o];exact HE.o.1,HE.o.2⟩
    .rw [if_neg hr] at iF;have Uk:=HRz.o;rw [if_neg hr] at Uk;subst iF;exact⟨rfl,by rw [Uk];rfl,by rw [Uk];exact HE.o.1,HE.o.2⟩
   .go_wp2_with fail;refine h3.mono ?_;rintro e w3 ⟨rfl,kB⟩;subst kB;clear h3;go_wp2;go_roundw;case rel=>exact⟨j+1,by omega,by rw [f4,HN.o.2],Uj.o,trivial⟩
    case measure=>
     rw [f4];exact As HN.o.1 HN.o.2 aS
  .have g2:=f2 aS;have XN:k.bf-j=0:=(by omega);rw [XN] at me;have hR:=HR.o;rw [me] at hR;have qD:=yh hR;clear me hR XN f1 f2;go_wp2;exact⟨rfl,by rw [qD.o];rfl,by rw [qD.o];exact HW.o.2.1.le (by omega),HW.o.2.2.1.mono (λ_ h=> .inl h)⟩
end
end
section
section
variable {P:Program} {ops:Array Oper} {md:Region.Mode}
theorem H9 {fuel t i:Nat} {dW:Array Bool} (h:Region.ready md ops dW= [i]):Region.linearise.go md ops (fuel+1) t dW []=i :: Region.linearise.go md ops fuel t (dW.setIfInBounds i true) []:=by
 simp only [Region.linearise.go];change (match (Region.ready md ops dW)[t%(Region.ready md ops dW).length]? with
   |some i=>Region.linearise.go md ops fuel (t / (Region.ready md ops dW).length) (dW.setIfInBounds i true) [i]
   |none=> [].reverse)=_
 rw [h];simp only [List.length_singleton,Nat.mod_one,Nat.div_one,List.getElem?_cons_zero];rw [linearise_go_acc];rfl
theorem QS {fuel t i j:Nat} {dW:Array Bool} (h:Region.ready md ops dW= [i,j]):∃t',Region.linearise.go md ops (fuel+1) t dW []=i :: Region.linearise.go md ops fuel t' (dW.setIfInBounds i true) []\/Region.linearise.go md ops (fuel+1) t dW []=j :: Region.linearise.go md ops fuel t' (dW.setIfInBounds j true) []:=by
 refine⟨t / 2,?_⟩;simp only [Region.linearise.go];change (match (Region.ready md ops dW)[t%(Region.ready md ops dW).length]? with
   |some i=>Region.linearise.go md ops fuel (t / (Region.ready md ops dW).length) (dW.setIfInBounds i true) [i]
   |none=> [].reverse)=_\/(match (Region.ready md ops dW)[t%(Region.ready md ops dW).length]? with
   |some i=>Region.linearise.go md ops fuel (t / (Region.ready md ops dW).length) (dW.setIfInBounds i true) [i]
   |none=> [].reverse)=_
 rw [h];have h2:t%2=0\/t%2=1:=by omega
 simp only [List.length_cons,List.length_nil,Nat.zero_add,Nat.reduceAdd];rcases h2 with h2|h2
 .left;rw [h2];simp only [List.getElem?_cons_zero];rw [linearise_go_acc];rfl
 .right;rw [h2];simp only [List.getElem?_cons_succ,List.getElem?_cons_zero];rw [linearise_go_acc];rfl
theorem tX {Q:Exit->Act->List Frame->World->Prop} {a:Act} {cs:List Frame} {w:World} {id:Nat} (hm:P.follows .mixedOrders=true)
    (h:∀t,wpOpsS P ops Q (Region.linearise.go .any ops ops.size t (Array.replicate ops.size false) []) a cs w.drew):(Code.region id ops true).wpS P Q a cs w:=by
 intro b k hb hr;have h1:=h (w.tape w.drawn (.order b.fn id));obtain⟨e,a',cs',w',q,r⟩:=wp_opsS _ a cs _ h1 b k hb hr;refine⟨e,a',cs',w',q, .of_steps (.one ?_) r⟩;rw [step_region_draw];simp only [Region.schedule,hm,Bool.true_or,if_true];rfl
end
section
variable {w w':World} {F:Nat->Prop} {p s cR q l m t n a:Nat} {S:DS} {G:SG} {T:TG}
theorem Ft (w:World):Calls prog 60 #[.nilIface] w λe w'=>e= .returned (.int .i64 0)/\w'=w:=by
 go_enter func60,ntmps60;go_wp2;go_ret;exact⟨rfl,rfl⟩
theorem Fu (x:Int) (w:World):Calls prog 60 #[.iface 39 (.int .i64 x)] w λe w'=>e= .returned (.int .i64 x)/\w'=w:=by
 have J3:∀w,(Instr.typeAssert (.iface 39 (.int .i64 x)) 20 39 false).run prog w= .ok (.int .i64 x) w:=λ_=>by kernel_rfl
 go_enter func60,ntmps60;go_wp2;go_ret;exact⟨rfl,rfl⟩
theorem iS (v:Value) (w:World):Calls prog 23 #[.nilIface,v] w λe w'=>e= .returned (.int .i64 0)/\w'=w:=by
 have h1:=Ft w;go_enter func23,ntmps23;go_wp2_with fail;refine h1.mono ?_;rintro e w1 ⟨rfl,rfl⟩;clear h1;go_wp2;go_ret;exact⟨rfl,rfl⟩
theorem TX.aT (h:TX w F p s cR q l m t n S G T) (x:Int):Calls prog 24 #[.pointer (some ⟨t,0,none⟩), .int .i64 x] w λe w'=>e= .returned (.int .i64 (T.aT G S x).1)/\TX w' F p s cR q l m t n S G (T.aT G S x).2/\ad (λk=>k=t) w w':=by
 refine(xX h.st h.tx x).mono ?_;rintro e w' ⟨rfl,h1,h2⟩;have hp:(T.aT G S x).2.puts=T.puts:=by
  unfold TG.aT;split
  .rfl
  .split <;> rfl
 refine⟨rfl,h.qG h1 ?_ (h.st.d.ak h2 (λk hk e=>h.tx.nt (e▸hk))) (h2.mono (λ_ h=> .inr (.inl h))) (by rw [hp];exact h.tx.kb),h2⟩;rw [hp];exact h.tx.ch.ak h2 (λe=>h.tx.tn e.symm)
theorem TG.QT (T:TG) (G:SG) (S:DS):(T.aT G S 0).2=T:=by
 unfold TG.aT;split
 .rfl
 .rw [if_neg (by decide)]
theorem iT (h:TX w F p s cR q l m t n S G T) (x:Int):
  Calls prog 23 #[.iface 39 (.int .i64 x), .func (.func 24) #[.pointer (some ⟨t,0,none⟩)] #[]] w λe w'=>e= .returned (.int .i64 x)/\TX w' F p s cR q l m t n S G (T.aT G S x).2/\ad (λk=>k=t) w w':=by
 have h1:=h.aT x;have k1:=Fu x w;by_cases hx:x=0
 .subst hx;have HN:Yh (TX w F p s cR q l m t n S G (T.aT G S 0).2):=yh (by rw [TG.QT];exact h);clear h h1;go_enter func23,ntmps23;go_wp2_with fail;refine k1.mono ?_;rintro e w1 ⟨rfl,rfl⟩;clear k1;go_wp2;go_ret;exact⟨rfl,HN.o,ad.refl _ _⟩
 .have q0:(x != 0)=true:=by simp [hx]
  clear h hx;go_enter func23,ntmps23;go_wp2_with fail;refine k1.mono ?_;rintro e w1 ⟨rfl,rfl⟩;clear k1;go_wp2_with fail;refine h1.mono ?_;rintro e w2 ⟨rfl,hx,hk⟩;have HN:=yh (And.intro hx hk);clear h1 hx hk;go_wp2;go_ret;exact⟨rfl,HN.o⟩
end
end
section
def QU (z:Bool) (k:Nat):Array Bool:= #[z,decide (1<=k),decide (2<=k),decide (3<=k),decide (4<=k),decide (5<=k),decide (6<=k),decide (7<=k)]
theorem CT (k:Nat):(QU false k).setIfInBounds 0 true=QU true k:=rfl
theorem CU:∀(z:Bool) (k:Nat),k<7->(QU z k).setIfInBounds (k+1) true=QU z (k+1)
 |_,0,_=>rfl
 |_,1,_=>rfl
 |_,2,_=>rfl
 |_,3,_=>rfl
 |_,4,_=>rfl
 |_,5,_=>rfl
 |_,6,_=>rfl
structure Ul (ops:Array Oper):Prop where
 n:ops.size=8
 a:∀k,k<5->Region.ready .any ops (QU false k)= [0,k+1]
 b:Region.ready .any ops (QU false 5)= [0]
 c:∀k,k<7->Region.ready .any ops (QU true k)= [k+1]
theorem Ul.tail {ops:Array Oper} (h:Ul ops):∀(r k t:Nat),k+r=7->Region.linearise.go .any ops r t (QU true k) []=List.range' (k+1) r
 |0,_,_,_=>rfl
 |r+1,k,t,hk=>by
  rw [H9 (h.c k (by omega)),CU true k (by omega),h.tail r (k+1) t (by omega)];rfl
theorem Ul.head {ops:Array Oper} (h:Ul ops):∀(r k t:Nat),k+r=5->∃j,j<=r/\Region.linearise.go .any ops (8-k) t (QU false k) []=List.range' (k+1) j ++ 0 :: List.range' (k+j+1) (7-(k+j))
 |0,k,t,hk=>by
  obtain rfl:k=5:=by omega
  refine⟨0,Nat.le_refl _,?_⟩;rw [show 8-5=2+1 from rfl,H9 h.b,CT,h.tail 2 5 t rfl];rfl
 |r+1,k,t,hk=>by
  rw [show 8-k=(7-k)+1 by omega];obtain⟨t',h1|h1⟩:=QS (fuel:=7-k) (t:=t) (h.a k (by omega))
  .refine⟨0,Nat.zero_le _,?_⟩;rw [h1,CT,h.tail (7-k) k t' (by omega)];rfl
  .obtain⟨j,hj,h2⟩:=h.head r (k+1) t' (by omega);refine⟨j+1,by omega,?_⟩;rw [h1,CU false k (by omega),show 7-k=8-(k+1) by omega,h2,List.range'_succ,show k+1+j=k+(j+1) by omega];rfl
theorem Ul.Um {ops:Array Oper} (h:Ul ops) (t:Nat):Region.linearise.go .any ops ops.size t (Array.replicate ops.size false) []∈ [[0,1,2,3,4,5,6,7], [1,0,2,3,4,5,6,7], [1,2,0,3,4,5,6,7], [1,2,3,0,4,5,6,7], [1,2,3,4,0,5,6,7], [1,2,3,4,5,0,6,7]]:=by
 obtain⟨j,hj,e⟩:=h.head 5 0 t rfl;rw [h.n];have e':Region.linearise.go .any ops 8 t (Array.replicate 8 false) []=List.range' 1 j ++ 0 :: List.range' (j+1) (7-j):=by
  have:=e;simp only [Nat.zero_add,Nat.sub_zero] at this;exact this
 rw [e']
 match j,hj with
 |0,_=>decide
 |1,_=>decide
 |2,_=>decide
 |3,_=>decide
 |4,_=>decide
 |5,_=>decide
theorem bJ {P:Program} {ops:Array Oper} {Q:Exit->Act->List Frame->World->Prop} {a:Act} {cs:List Frame} {w:World} {id:Nat} (hm:P.follows .mixedOrders=true) (h6:Ul ops)
    (h:∀o∈ [[0,1,2,3,4,5,6,7], [1,0,2,3,4,5,6,7], [1,2,0,3,4,5,6,7], [1,2,3,0,4,5,6,7], [1,2,3,4,0,5,6,7], [1,2,3,4,5,0,6,7]],wpOpsS P ops Q o a cs w.drew):(Code.region id ops true).wpS P Q a cs w:=
 tX hm (λt=>h _ (h6.Um t))
section
variable {w w':World} {F:Nat->Prop} {p s cR q l m t n a gp ge:Nat} {S:DS} {G:SG} {T:TG}
def mg (w w':World) (ge:Nat) (x:Int):Prop:=w'.heap[ge]? =some (.cells #[.int .i64 x] 39 (0,0))/\ad (λk=>k=ge) w w'
theorem iK {y:Value} {x:Int} (v:Value) (hv:v= .int .i64 x) (hk:ad (λk=>k=ge) w w') (h2:w'.heap[ge]? =some (.cells #[y] 39 (0,0))):mg w (w'.setCell ⟨ge,0,none⟩ v) ge x:=by
 subst hv;exact⟨(heap_setCell_same _ _ 0 _ _ _ h2).trans rfl,hk.trans (ad.setCell (F:=λk=>k=ge) w' (p:=⟨ge,0,none⟩) rfl _) (λ_ h=> .inl h)⟩
end
end
section
section
variable {w:World} {F:Nat->Prop} {p s cR q l m t n a gp ge:Nat} {S:DS} {G:SG} {T:TG}
theorem CV (hp:ar w F a t n) (h1:w.heap[gp]? =some (.cells #[.pointer (some ⟨a,0,none⟩)] 35 (0,0))) {x:Value} (h2:w.heap[ge]? =some (.cells #[x] 39 (0,0))):
  CallsD prog 22 #[.pointer (some ⟨gp,0,none⟩), .pointer (some ⟨ge,0,none⟩)] .returning w λe u' w'=>e= .returned (.tuple #[])/\u'= .returning/\mg w w' ge 0:=by
 have c0:w.drew.cell? ⟨gp,0,none⟩=some (.pointer (some ⟨a,0,none⟩)):=aa (w:=w.drew) h1 (j:=0) rfl;have c1:w.drew.cell? ⟨a,0,none⟩=some (.pointer (some ⟨t,0,none⟩)):=aa (w:=w.drew) hp.b (j:=0) rfl;have c2:w.drew.cell? ⟨ge,0,none⟩=some x:=aa (w:=w.drew) h2 (j:=0) rfl;have f2:w.drew.frozen? ⟨ge,0,none⟩=false:=ae (w:=w.drew) h2 0;have hc:=iS (.func (.func 24) #[.pointer (some ⟨t,0,none⟩)] #[]) w.drew;have HE:=yh (iK (w:=w) (w':=w.drew) (x:=0) (.int .i64 0) rfl (ad.drew _ w) h2);have lV:w.drew.setCell ⟨ge,0,none⟩ (.int .i64 0)=(w.setCell ⟨ge,0,none⟩ (.int .i64 0)).drew:=rfl;rw [lV] at HE;clear h1 h2 hp lV;refine callsD_of_wpS func22 rfl λc₀ cs hu=>?_;refine bJ (by kernel_rfl) ⟨rfl,by decide+kernel,by decide+kernel,by decide+kernel⟩ (λo ho=>?_);simp only [List.mem_cons,List.not_mem_nil,or_false] at ho;rcases ho with rfl|rfl|rfl|rfl|rfl|rfl;all_goals
  simp [wpOpsS,go_sem,recoverD,hu,c0,c1,ntmps22];refine hc.mono ?_;rintro e w2 ⟨rfl,ed⟩;subst ed;simp [go_sem,c2,f2,bodyPostS,results,results22];exact⟨c₀.mode,rfl,hu,HE.o⟩
theorem ro (h:TX w F p s cR q l m t n S G T) (hp:ar w F a t n) (h1:w.heap[gp]? =some (.cells #[.pointer (some ⟨a,0,none⟩)] 35 (0,0))) {y:Value} (h2:w.heap[ge]? =some (.cells #[y] 39 (0,0))) (zw:ge≠t) (x:Int):
  CallsD prog 22 #[.pointer (some ⟨gp,0,none⟩), .pointer (some ⟨ge,0,none⟩)] (.panicking (iD x)) w λe u' w'=>e= .returned (.tuple #[])/\u'= .panicking [{v:= .iface 39 (.int .i64 x),recovered:=true}]/\∃w2,TX w2 F p s cR q l m t n S G (T.aT G S x).2/\ad (λk=>k=t) w w2/\mg w2 w' ge x:=by
 have c0:w.drew.cell? ⟨gp,0,none⟩=some (.pointer (some ⟨a,0,none⟩)):=aa (w:=w.drew) h1 (j:=0) rfl;have c1:w.drew.cell? ⟨a,0,none⟩=some (.pointer (some ⟨t,0,none⟩)):=aa (w:=w.drew) hp.b (j:=0) rfl;have lQ:Below w.heap.size w w.drew:=ah (Below.refl _ _);have hc:=iT (h.later lQ) x;have HB:Yh (∀w2,ad (λk=>k=t) w.drew w2->w2.heap[ge]? =some (.cells #[y] 39 (0,0))/\ad (λk=>k=t) w w2):=λw2 hk=>⟨(hk.block _ (af h2) zw).trans h2,(ad.drew _ w).trans hk (λ_ h=> .inl h)⟩;clear h h1 h2 hp lQ;refine callsD_of_wpS func22 rfl λc₀ cs hu=>?_;refine bJ (by kernel_rfl) ⟨rfl,by decide+kernel,by decide+kernel,by decide+kernel⟩ (λo ho=>?_);simp only [List.mem_cons,List.not_mem_nil,or_false] at ho;rcases ho with rfl|rfl|rfl|rfl|rfl|rfl;all_goals
  simp [wpOpsS,go_sem,recoverD,hu,c0,c1,ntmps22];refine hc.mono ?_;rintro e w2 ⟨rfl,dV,aK⟩;obtain⟨aG,aR⟩:=HB.o w2 aK;have c2:w2.cell? ⟨ge,0,none⟩=some y:=aa aG (j:=0) rfl;have f2:w2.frozen? ⟨ge,0,none⟩=false:=ae aG 0;simp [go_sem,c2,f2,bodyPostS,results,results22];exact⟨w2,dV,aR,iK _ rfl (ad.refl _ _) aG⟩
theorem CX (hp:ar w F a t n) (h1:w.heap[gp]? =some (.cells #[.pointer (some ⟨a,0,none⟩)] 35 (0,0))) {x:Value} (h2:w.heap[ge]? =some (.cells #[x] 39 (0,0))):
  CallsD prog 111 #[.pointer (some ⟨gp,0,none⟩), .pointer (some ⟨ge,0,none⟩)] .returning w λe u' w'=>e= .returned (.tuple #[])/\u'= .returning/\mg w w' ge 0:=by
 have c0:w.drew.cell? ⟨gp,0,none⟩=some (.pointer (some ⟨a,0,none⟩)):=aa (w:=w.drew) h1 (j:=0) rfl;have c1:w.drew.cell? ⟨a,0,none⟩=some (.pointer (some ⟨t,0,none⟩)):=aa (w:=w.drew) hp.b (j:=0) rfl;have c2:w.drew.cell? ⟨ge,0,none⟩=some x:=aa (w:=w.drew) h2 (j:=0) rfl;have f2:w.drew.frozen? ⟨ge,0,none⟩=false:=ae (w:=w.drew) h2 0;have hc:=iS (.func (.func 24) #[.pointer (some ⟨t,0,none⟩)] #[]) w.drew;have HE:=yh (iK (w:=w) (w':=w.drew) (x:=0) (.int .i64 0) rfl (ad.drew _ w) h2);have lV:w.drew.setCell ⟨ge,0,none⟩ (.int .i64 0)=(w.setCell ⟨ge,0,none⟩ (.int .i64 0)).drew:=rfl;rw [lV] at HE;clear h1 h2 hp lV;refine callsD_of_wpS func111 rfl λc₀ cs hu=>?_;refine bJ (by kernel_rfl) ⟨rfl,by decide+kernel,by decide+kernel,by decide+kernel⟩ (λo ho=>?_);simp only [List.mem_cons,List.not_mem_nil,or_false] at ho;rcases ho with rfl|rfl|rfl|rfl|rfl|rfl;all_goals
  simp [wpOpsS,go_sem,recoverD,hu,c0,c1,ntmps111];refine hc.mono ?_;rintro e w2 ⟨rfl,ed⟩;subst ed;simp [go_sem,c2,f2,bodyPostS,results,results111];exact⟨c₀.mode,rfl,hu,HE.o⟩
theorem At (h:TX w F p s cR q l m t n S G T) (hp:ar w F a t n) (h1:w.heap[gp]? =some (.cells #[.pointer (some ⟨a,0,none⟩)] 35 (0,0))) {y:Value} (h2:w.heap[ge]? =some (.cells #[y] 39 (0,0))) (zw:ge≠t) (x:Int):
  CallsD prog 111 #[.pointer (some ⟨gp,0,none⟩), .pointer (some ⟨ge,0,none⟩)] (.panicking (iD x)) w λe u' w'=>e= .returned (.tuple #[])/\u'= .panicking [{v:= .iface 39 (.int .i64 x),recovered:=true}]/\∃w2,TX w2 F p s cR q l m t n S G (T.aT G S x).2/\ad (λk=>k=t) w w2/\mg w2 w' ge x:=by
 have c0:w.drew.cell? ⟨gp,0,none⟩=some (.pointer (some ⟨a,0,none⟩)):=aa (w:=w.drew) h1 (j:=0) rfl;have c1:w.drew.cell? ⟨a,0,none⟩=some (.pointer (some ⟨t,0,none⟩)):=aa (w:=w.drew) hp.b (j:=0) rfl;have lQ:Below w.heap.size w w.drew:=ah (Below.refl _ _);have hc:=iT (h.later lQ) x;have HB:Yh (∀w2,ad (λk=>k=t) w.drew w2->w2.heap[ge]? =some (.cells #[y] 39 (0,0))/\ad (λk=>k=t) w w2):=λw2 hk=>⟨(hk.block _ (af h2) zw).trans h2,(ad.drew _ w).trans hk (λ_ h=> .inl h)⟩;clear h h1 h2 hp lQ;refine callsD_of_wpS func111 rfl λc₀ cs hu=>?_;refine bJ (by kernel_rfl) ⟨rfl,by decide+kernel,by decide+kernel,by decide+kernel⟩ (λo ho=>?_);simp only [List.mem_cons,List.not_mem_nil,or_false] at ho;rcases ho with rfl|rfl|rfl|rfl|rfl|rfl;all_goals
  simp [wpOpsS,go_sem,recoverD,hu,c0,c1,ntmps111];refine hc.mono ?_;rintro e w2 ⟨rfl,dV,aK⟩;obtain⟨aG,aR⟩:=HB.o w2 aK;have c2:w2.cell? ⟨ge,0,none⟩=some y:=aa aG (j:=0) rfl;have f2:w2.frozen? ⟨ge,0,none⟩=false:=ae aG 0;simp [go_sem,c2,f2,bodyPostS,results,results111];exact⟨w2,dV,aR,iK _ rfl (ad.refl _ _) aG⟩
end
end
section
section
variable {w:World} {F:Nat->Prop} {p s cR q l m t n a gp ge:Nat} {S:DS} {G:SG} {T:TG}
theorem CY (hp:ar w F a t n) (h1:w.heap[gp]? =some (.cells #[.pointer (some ⟨a,0,none⟩)] 35 (0,0))) {x:Value} (h2:w.heap[ge]? =some (.cells #[x] 39 (0,0))):
  CallsD prog 116 #[.pointer (some ⟨gp,0,none⟩), .pointer (some ⟨ge,0,none⟩)] .returning w λe u' w'=>e= .returned (.tuple #[])/\u'= .returning/\mg w w' ge 0:=by
 have c0:w.drew.cell? ⟨gp,0,none⟩=some (.pointer (some ⟨a,0,none⟩)):=aa (w:=w.drew) h1 (j:=0) rfl;have c1:w.drew.cell? ⟨a,0,none⟩=some (.pointer (some ⟨t,0,none⟩)):=aa (w:=w.drew) hp.b (j:=0) rfl;have c2:w.drew.cell? ⟨ge,0,none⟩=some x:=aa (w:=w.drew) h2 (j:=0) rfl;have f2:w.drew.frozen? ⟨ge,0,none⟩=false:=ae (w:=w.drew) h2 0;have hc:=iS (.func (.func 24) #[.pointer (some ⟨t,0,none⟩)] #[]) w.drew;have HE:=yh (iK (w:=w) (w':=w.drew) (x:=0) (.int .i64 0) rfl (ad.drew _ w) h2);have lV:w.drew.setCell ⟨ge,0,none⟩ (.int .i64 0)=(w.setCell ⟨ge,0,none⟩ (.int .i64 0)).drew:=rfl;rw [lV] at HE;clear h1 h2 hp lV;refine callsD_of_wpS func116 rfl λc₀ cs hu=>?_;refine bJ (by kernel_rfl) ⟨rfl,by decide+kernel,by decide+kernel,by decide+kernel⟩ (λo ho=>?_);simp only [List.mem_cons,List.not_mem_nil,or_false] at ho;rcases ho with rfl|rfl|rfl|rfl|rfl|rfl;all_goals
  simp [wpOpsS,go_sem,recoverD,hu,c0,c1,ntmps116];refine hc.mono ?_;rintro e w2 ⟨rfl,ed⟩;subst ed;simp [go_sem,c2,f2,bodyPostS,results,results116];exact⟨c₀.mode,rfl,hu,HE.o⟩
theorem Au (h:TX w F p s cR q l m t n S G T) (hp:ar w F a t n) (h1:w.heap[gp]? =some (.cells #[.pointer (some ⟨a,0,none⟩)] 35 (0,0))) {y:Value} (h2:w.heap[ge]? =some (.cells #[y] 39 (0,0))) (zw:ge≠t) (x:Int):
  CallsD prog 116 #[.pointer (some ⟨gp,0,none⟩), .pointer (some ⟨ge,0,none⟩)] (.panicking (iD x)) w λe u' w'=>e= .returned (.tuple #[])/\u'= .panicking [{v:= .iface 39 (.int .i64 x),recovered:=true}]/\∃w2,TX w2 F p s cR q l m t n S G (T.aT G S x).2/\ad (λk=>k=t) w w2/\mg w2 w' ge x:=by
 have c0:w.drew.cell? ⟨gp,0,none⟩=some (.pointer (some ⟨a,0,none⟩)):=aa (w:=w.drew) h1 (j:=0) rfl;have c1:w.drew.cell? ⟨a,0,none⟩=some (.pointer (some ⟨t,0,none⟩)):=aa (w:=w.drew) hp.b (j:=0) rfl;have lQ:Below w.heap.size w w.drew:=ah (Below.refl _ _);have hc:=iT (h.later lQ) x;have HB:Yh (∀w2,ad (λk=>k=t) w.drew w2->w2.heap[ge]? =some (.cells #[y] 39 (0,0))/\ad (λk=>k=t) w w2):=λw2 hk=>⟨(hk.block _ (af h2) zw).trans h2,(ad.drew _ w).trans hk (λ_ h=> .inl h)⟩;clear h h1 h2 hp lQ;refine callsD_of_wpS func116 rfl λc₀ cs hu=>?_;refine bJ (by kernel_rfl) ⟨rfl,by decide+kernel,by decide+kernel,by decide+kernel⟩ (λo ho=>?_);simp only [List.mem_cons,List.not_mem_nil,or_false] at ho;rcases ho with rfl|rfl|rfl|rfl|rfl|rfl;all_goals
  simp [wpOpsS,go_sem,recoverD,hu,c0,c1,ntmps116];refine hc.mono ?_;rintro e w2 ⟨rfl,dV,aK⟩;obtain⟨aG,aR⟩:=HB.o w2 aK;have c2:w2.cell? ⟨ge,0,none⟩=some y:=aa aG (j:=0) rfl;have f2:w2.frozen? ⟨ge,0,none⟩=false:=ae aG 0;simp [go_sem,c2,f2,bodyPostS,results,results116];exact⟨w2,dV,aR,iK _ rfl (ad.refl _ _) aG⟩
theorem CZ (hp:ar w F a t n) (h1:w.heap[gp]? =some (.cells #[.pointer (some ⟨a,0,none⟩)] 35 (0,0))) {x:Value} (h2:w.heap[ge]? =some (.cells #[x] 39 (0,0))):
  CallsD prog 114 #[.pointer (some ⟨gp,0,none⟩), .pointer (some ⟨ge,0,none⟩)] .returning w λe u' w'=>e= .returned (.tuple #[])/\u'= .returning/\mg w w' ge 0:=by
 have c0:w.drew.cell? ⟨gp,0,none⟩=some (.pointer (some ⟨a,0,none⟩)):=aa (w:=w.drew) h1 (j:=0) rfl;have c1:w.drew.cell? ⟨a,0,none⟩=some (.pointer (some ⟨t,0,none⟩)):=aa (w:=w.drew) hp.b (j:=0) rfl;have c2:w.drew.cell? ⟨ge,0,none⟩=some x:=aa (w:=w.drew) h2 (j:=0) rfl;have f2:w.drew.frozen? ⟨ge,0,none⟩=false:=ae (w:=w.drew) h2 0;have hc:=iS (.func (.func 24) #[.pointer (some ⟨t,0,none⟩)] #[]) w.drew;have HE:=yh (iK (w:=w) (w':=w.drew) (x:=0) (.int .i64 0) rfl (ad.drew _ w) h2);have lV:w.drew.setCell ⟨ge,0,none⟩ (.int .i64 0)=(w.setCell ⟨ge,0,none⟩ (.int .i64 0)).drew:=rfl;rw [lV] at HE;clear h1 h2 hp lV;refine callsD_of_wpS func114 rfl λc₀ cs hu=>?_;refine bJ (by kernel_rfl) ⟨rfl,by decide+kernel,by decide+kernel,by decide+kernel⟩ (λo ho=>?_);simp only [List.mem_cons,List.not_mem_nil,or_false] at ho;rcases ho with rfl|rfl|rfl|rfl|rfl|rfl;all_goals
  simp [wpOpsS,go_sem,recoverD,hu,c0,c1,ntmps114];refine hc.mono ?_;rintro e w2 ⟨rfl,ed⟩;subst ed;simp [go_sem,c2,f2,bodyPostS,results,results114];exact⟨c₀.mode,rfl,hu,HE.o⟩
theorem Av (h:TX w F p s cR q l m t n S G T) (hp:ar w F a t n) (h1:w.heap[gp]? =some (.cells #[.pointer (some ⟨a,0,none⟩)] 35 (0,0))) {y:Value} (h2:w.heap[ge]? =some (.cells #[y] 39 (0,0))) (zw:ge≠t) (x:Int):
  CallsD prog 114 #[.pointer (some ⟨gp,0,none⟩), .pointer (some ⟨ge,0,none⟩)] (.panicking (iD x)) w λe u' w'=>e= .returned (.tuple #[])/\u'= .panicking [{v:= .iface 39 (.int .i64 x),recovered:=true}]/\∃w2,TX w2 F p s cR q l m t n S G (T.aT G S x).2/\ad (λk=>k=t) w w2/\mg w2 w' ge x:=by
 have c0:w.drew.cell? ⟨gp,0,none⟩=some (.pointer (some ⟨a,0,none⟩)):=aa (w:=w.drew) h1 (j:=0) rfl;have c1:w.drew.cell? ⟨a,0,none⟩=some (.pointer (some ⟨t,0,none⟩)):=aa (w:=w.drew) hp.b (j:=0) rfl;have lQ:Below w.heap.size w w.drew:=ah (Below.refl _ _);have hc:=iT (h.later lQ) x;have HB:Yh (∀w2,ad (λk=>k=t) w.drew w2->w2.heap[ge]? =some (.cells #[y] 39 (0,0))/\ad (λk=>k=t) w w2):=λw2 hk=>⟨(hk.block _ (af h2) zw).trans h2,(ad.drew _ w).trans hk (λ_ h=> .inl h)⟩;clear h h1 h2 hp lQ;refine callsD_of_wpS func114 rfl λc₀ cs hu=>?_;refine bJ (by kernel_rfl) ⟨rfl,by decide+kernel,by decide+kernel,by decide+kernel⟩ (λo ho=>?_);simp only [List.mem_cons,List.not_mem_nil,or_false] at ho;rcases ho with rfl|rfl|rfl|rfl|rfl|rfl;all_goals
  simp [wpOpsS,go_sem,recoverD,hu,c0,c1,ntmps114];refine hc.mono ?_;rintro e w2 ⟨rfl,dV,aK⟩;obtain⟨aG,aR⟩:=HB.o w2 aK;have c2:w2.cell? ⟨ge,0,none⟩=some y:=aa aG (j:=0) rfl;have f2:w2.frozen? ⟨ge,0,none⟩=false:=ae aG 0;simp [go_sem,c2,f2,bodyPostS,results,results114];exact⟨w2,dV,aR,iK _ rfl (ad.refl _ _) aG⟩
end
end
section
section
variable {w:World} {F:Nat->Prop} {p s cR q l m t n a gp ge:Nat} {S:DS} {G:SG} {T:TG}
theorem C0 (hp:ar w F a t n) (h1:w.heap[gp]? =some (.cells #[.pointer (some ⟨a,0,none⟩)] 35 (0,0))) {x:Value} (h2:w.heap[ge]? =some (.cells #[x] 39 (0,0))):
  CallsD prog 117 #[.pointer (some ⟨gp,0,none⟩), .pointer (some ⟨ge,0,none⟩)] .returning w λe u' w'=>e= .returned (.tuple #[])/\u'= .returning/\mg w w' ge 0:=by
 have c0:w.drew.cell? ⟨gp,0,none⟩=some (.pointer (some ⟨a,0,none⟩)):=aa (w:=w.drew) h1 (j:=0) rfl;have c1:w.drew.cell? ⟨a,0,none⟩=some (.pointer (some ⟨t,0,none⟩)):=aa (w:=w.drew) hp.b (j:=0) rfl;have c2:w.drew.cell? ⟨ge,0,none⟩=some x:=aa (w:=w.drew) h2 (j:=0) rfl;have f2:w.drew.frozen? ⟨ge,0,none⟩=false:=ae (w:=w.drew) h2 0;have hc:=iS (.func (.func 24) #[.pointer (some ⟨t,0,none⟩)] #[]) w.drew;have HE:=yh (iK (w:=w) (w':=w.drew) (x:=0) (.int .i64 0) rfl (ad.drew _ w) h2);have lV:w.drew.setCell ⟨ge,0,none⟩ (.int .i64 0)=(w.setCell ⟨ge,0,none⟩ (.int .i64 0)).drew:=rfl;rw [lV] at HE;clear h1 h2 hp lV;refine callsD_of_wpS func117 rfl λc₀ cs hu=>?_;refine bJ (by kernel_rfl) ⟨rfl,by decide+kernel,by decide+kernel,by decide+kernel⟩ (λo ho=>?_);simp only [List.mem_cons,List.not_mem_nil,or_false] at ho;rcases ho with rfl|rfl|rfl|rfl|rfl|rfl;all_goals
  simp [wpOpsS,go_sem,recoverD,hu,c0,c1,ntmps117];refine hc.mono ?_;rintro e w2 ⟨rfl,ed⟩;subst ed;simp [go_sem,c2,f2,bodyPostS,results,results117];exact⟨c₀.mode,rfl,hu,HE.o⟩
theorem Aw (h:TX w F p s cR q l m t n S G T) (hp:ar w F a t n) (h1:w.heap[gp]? =some (.cells #[.pointer (some ⟨a,0,none⟩)] 35 (0,0))) {y:Value} (h2:w.heap[ge]? =some (.cells #[y] 39 (0,0))) (zw:ge≠t) (x:Int):
  CallsD prog 117 #[.pointer (some ⟨gp,0,none⟩), .pointer (some ⟨ge,0,none⟩)] (.panicking (iD x)) w λe u' w'=>e= .returned (.tuple #[])/\u'= .panicking [{v:= .iface 39 (.int .i64 x),recovered:=true}]/\∃w2,TX w2 F p s cR q l m t n S G (T.aT G S x).2/\ad (λk=>k=t) w w2/\mg w2 w' ge x:=by
 have c0:w.drew.cell? ⟨gp,0,none⟩=some (.pointer (some ⟨a,0,none⟩)):=aa (w:=w.drew) h1 (j:=0) rfl;have c1:w.drew.cell? ⟨a,0,none⟩=some (.pointer (some ⟨t,0,none⟩)):=aa (w:=w.drew) hp.b (j:=0) rfl;have lQ:Below w.heap.size w w.drew:=ah (Below.refl _ _);have hc:=iT (h.later lQ) x;have HB:Yh (∀w2,ad (λk=>k=t) w.drew w2->w2.heap[ge]? =some (.cells #[y] 39 (0,0))/\ad (λk=>k=t) w w2):=λw2 hk=>⟨(hk.block _ (af h2) zw).trans h2,(ad.drew _ w).trans hk (λ_ h=> .inl h)⟩;clear h h1 h2 hp lQ;refine callsD_of_wpS func117 rfl λc₀ cs hu=>?_;refine bJ (by kernel_rfl) ⟨rfl,by decide+kernel,by decide+kernel,by decide+kernel⟩ (λo ho=>?_);simp only [List.mem_cons,List.not_mem_nil,or_false] at ho;rcases ho with rfl|rfl|rfl|rfl|rfl|rfl;all_goals
  simp [wpOpsS,go_sem,recoverD,hu,c0,c1,ntmps117];refine hc.mono ?_;rintro e w2 ⟨rfl,dV,aK⟩;obtain⟨aG,aR⟩:=HB.o w2 aK;have c2:w2.cell? ⟨ge,0,none⟩=some y:=aa aG (j:=0) rfl;have f2:w2.frozen? ⟨ge,0,none⟩=false:=ae aG 0;simp [go_sem,c2,f2,bodyPostS,results,results117];exact⟨w2,dV,aR,iK _ rfl (ad.refl _ _) aG⟩
theorem Fv (hp:ar w F a t n) (h1:w.heap[gp]? =some (.cells #[.pointer (some ⟨a,0,none⟩)] 35 (0,0))) {x:Value} (h2:w.heap[ge]? =some (.cells #[x] 39 (0,0))):
  CallsD prog 118 #[.pointer (some ⟨gp,0,none⟩), .pointer (some ⟨ge,0,none⟩)] .returning w λe u' w'=>e= .returned (.tuple #[])/\u'= .returning/\mg w w' ge 0:=by
 have c0:w.drew.cell? ⟨gp,0,none⟩=some (.pointer (some ⟨a,0,none⟩)):=aa (w:=w.drew) h1 (j:=0) rfl;have c1:w.drew.cell? ⟨a,0,none⟩=some (.pointer (some ⟨t,0,none⟩)):=aa (w:=w.drew) hp.b (j:=0) rfl;have c2:w.drew.cell? ⟨ge,0,none⟩=some x:=aa (w:=w.drew) h2 (j:=0) rfl;have f2:w.drew.frozen? ⟨ge,0,none⟩=false:=ae (w:=w.drew) h2 0;have hc:=iS (.func (.func 24) #[.pointer (some ⟨t,0,none⟩)] #[]) w.drew;have HE:=yh (iK (w:=w) (w':=w.drew) (x:=0) (.int .i64 0) rfl (ad.drew _ w) h2);have lV:w.drew.setCell ⟨ge,0,none⟩ (.int .i64 0)=(w.setCell ⟨ge,0,none⟩ (.int .i64 0)).drew:=rfl;rw [lV] at HE;clear h1 h2 hp lV;refine callsD_of_wpS func118 rfl λc₀ cs hu=>?_;refine bJ (by kernel_rfl) ⟨rfl,by decide+kernel,by decide+kernel,by decide+kernel⟩ (λo ho=>?_);simp only [List.mem_cons,List.not_mem_nil,or_false] at ho;rcases ho with rfl|rfl|rfl|rfl|rfl|rfl;all_goals
  simp [wpOpsS,go_sem,recoverD,hu,c0,c1,ntmps118];refine hc.mono ?_;rintro e w2 ⟨rfl,ed⟩;subst ed;simp [go_sem,c2,f2,bodyPostS,results,results118];exact⟨c₀.mode,rfl,hu,HE.o⟩
theorem C1 (h:TX w F p s cR q l m t n S G T) (hp:ar w F a t n) (h1:w.heap[gp]? =some (.cells #[.pointer (some ⟨a,0,none⟩)] 35 (0,0))) {y:Value} (h2:w.heap[ge]? =some (.cells #[y] 39 (0,0))) (zw:ge≠t) (x:Int):
  CallsD prog 118 #[.pointer (some ⟨gp,0,none⟩), .pointer (some ⟨ge,0,none⟩)] (.panicking (iD x)) w λe u' w'=>e= .returned (.tuple #[])/\u'= .panicking [{v:= .iface 39 (.int .i64 x),recovered:=true}]/\∃w2,TX w2 F p s cR q l m t n S G (T.aT G S x).2/\ad (λk=>k=t) w w2/\mg w2 w' ge x:=by
 have c0:w.drew.cell? ⟨gp,0,none⟩=some (.pointer (some ⟨a,0,none⟩)):=aa (w:=w.drew) h1 (j:=0) rfl;have c1:w.drew.cell? ⟨a,0,none⟩=some (.pointer (some ⟨t,0,none⟩)):=aa (w:=w.drew) hp.b (j:=0) rfl;have lQ:Below w.heap.size w w.drew:=ah (Below.refl _ _);have hc:=iT (h.later lQ) x;have HB:Yh (∀w2,ad (λk=>k=t) w.drew w2->w2.heap[ge]? =some (.cells #[y] 39 (0,0))/\ad (λk=>k=t) w w2):=λw2 hk=>⟨(hk.block _ (af h2) zw).trans h2,(ad.drew _ w).trans hk (λ_ h=> .inl h)⟩;clear h h1 h2 hp lQ;refine callsD_of_wpS func118 rfl λc₀ cs hu=>?_;refine bJ (by kernel_rfl) ⟨rfl,by decide+kernel,by decide+kernel,by decide+kernel⟩ (λo ho=>?_);simp only [List.mem_cons,List.not_mem_nil,or_false] at ho;rcases ho with rfl|rfl|rfl|rfl|rfl|rfl;all_goals
  simp [wpOpsS,go_sem,recoverD,hu,c0,c1,ntmps118];refine hc.mono ?_;rintro e w2 ⟨rfl,dV,aK⟩;obtain⟨aG,aR⟩:=HB.o w2 aK;have c2:w2.cell? ⟨ge,0,none⟩=some y:=aa aG (j:=0) rfl;have f2:w2.frozen? ⟨ge,0,none⟩=false:=ae aG 0;simp [go_sem,c2,f2,bodyPostS,results,results118];exact⟨w2,dV,aR,iK _ rfl (ad.refl _ _) aG⟩
end
end
section
def TG.il (T:TG) (G:SG) (S:DS) (k:pg):Int×Int×TG:=match (T.dr G S k).1 with
 |some x=>((x:Int),0,(T.dr G S k).2.2)
 |none=>(0,(T.dr G S k).2.1,((T.dr G S k).2.2.aT G S (T.dr G S k).2.1).2)
theorem Ax {y:LY} (h:CJ y):(dh y).Ok:=⟨by show 0<2;omega,Nat.zero_le _,by have:=h.bl;have:=h.dy;show y.data-0+(y.blocks-y.data)<=4096;omega,by show 0<=1;omega⟩
theorem Ay {y:LY} (h:CJ y):(dX y).Ok:=⟨by show 1<2;omega,by show 1<=1;omega,by have:=h.nd;show 1-1+y.nodes<=4096;omega,by show 1<=1;omega⟩
def wY (Pn:List PanicEntry->Act->World->Prop) (Q:Exit->Act->World->Prop):Exit->Act->World->Prop
 | .panic c,a,w=>Pn c a w
 |e,a,w=>Q e a w
theorem jn {P:Program} {c:Code} {Q:Exit->Act->World->Prop} {a:Act} {w:World} (Pn:List PanicEntry->Act->World->Prop) (h1:∀c a w,Pn c a w->Q (.panic c) a w) (h2:c.wp P (wY Pn Q) a w):c.wp P Q a w:=
 Code.wp_mono (λe a w h=>by cases e <;> first|exact h1 _ _ _ h|exact h) h2
def Ia (D:List Deferred) (sl:List (Nat×Value)) (W:List PanicEntry->World->Prop) (c:List PanicEntry) (a:Act) (w:World):Prop:=a.defers=D/\(∀x∈sl,a.tmps.getD x.1 undef=x.2)/\W c w
theorem Ia.put {D:List Deferred} {sl:List (Nat×Value)} {W:List PanicEntry->World->Prop} {c:List PanicEntry} {a:Act} {w:World} {d:Nat} {v:Value} (h:Ia D sl W c (a.put (some d) v) w) (hd:∀x∈sl,x.1≠d):Ia D sl W c a w:=by
 obtain⟨e1,e2,e4⟩:=h;refine⟨e1,λx hx=>?_,e4⟩;have:=e2 x hx;rw [<-this];show _=(a.tmps.setIfInBounds d v).getD x.1 undef;simp only [Array.getD_eq_getD_getElem?];rw [Array.getElem?_setIfInBounds_ne (λe=>hd x hx e.symm)]
theorem dZ {D:List Deferred} {sl:List (Nat×Value)} {W:List PanicEntry->World->Prop} {Q:Exit->Act->World->Prop} {d:Nat} {v:Value} (hd:∀x∈sl,x.1≠d):∀c a w,wY (Ia D sl W) Q (.panic c) (a.put (some d) v) w->wY (Ia D sl W) Q (.panic c) a w:=λ_ _ _ h=>Ia.put h hd
theorem vD (w:World) (o o':Obj):Below w.heap.size w ((w.alloc o).alloc o').drew/\((w.alloc o).alloc o').drew.heap[w.heap.size]? =some o/\((w.alloc o).alloc o').drew.heap[w.heap.size+1]? =some o'/\((w.alloc o).alloc o').drew.heap.size=w.heap.size+2:=
   ⟨ah (bQ w _ _),heap_alloc2_old _ _ _,heap_alloc2_new _ _ _,by show ((w.alloc o).alloc o').heap.size=_;simp⟩
section
variable {w:World} {F:Nat->Prop} {p s cR q l m t n a:Nat} {S:DS} {G:SG} {T:TG}
theorem C3 (h:TX w F p s cR q l m t n S G T) (hp:ar w F a t n) (k:pg) (hk:k.Ok):
  Calls prog 112 #[.pointer (some ⟨a,0,none⟩),fe k] w λe w'=>yC (T.dr G S k) e/\TX w' F p s (cR+2) q l m t n S G (T.dr G S k).2.2/\ad (cq F t n) w w':=by
 by_cases h0:T.refusal G S k.bm=0
 .exact Nr h hp k hk h0
 .have e:T.dr G S k=(none,T.refusal G S k.bm,T):=by unfold TG.dr;rw [if_pos h0]
  rw [e];refine(Nq h hp k h0).mono ?_;rintro e w' ⟨rfl,h1,h2⟩;exact⟨rfl,h1.le (by omega),h2.mono (λ_ h=> .inl h)⟩
end
end
section
section
variable {w:World} {F:Nat->Prop} {p s cR q l m t n a:Nat} {S:DS} {G:SG} {T:TG}
theorem pC (h:TX w F p s cR q l m t n S G T) (hp:ar w F a t n):
  Calls prog 69 #[.pointer (some ⟨a,0,none⟩)] w λe w'=>e= .returned (.tuple #[.int .i64 (T.il G S (dh G.y)).1, .int .i64 (T.il G S (dh G.y)).2.1])/\TX w' F p s (cR+2) q l m t n S G (T.il G S (dh G.y)).2.2/\ad (cq F t n) w w':=by
 obtain⟨aH,gm,dU,jx⟩:=vD w (.cells #[.pointer (some ⟨a,0,none⟩)] 35) (.cells #[.int .i64 0] 39);obtain⟨w1,bd⟩:∃w1,w1=(w.alloc (.cells #[.pointer (some ⟨a,0,none⟩)] 35)).alloc (.cells #[.int .i64 0] 39):=⟨_,rfl⟩;rw [<-bd] at aH gm dU jx;have aS:=h.lt;have dj:=h.later aH;have gM:=hp.later aH;have aA:=kN dj gM;have HT:Yh (∀w2,Below w1.drew.heap.size w1.drew w2->Calls prog 112 #[.pointer (some ⟨a,0,none⟩),fe (dh G.y)] w2 λe w'=>yC (T.dr G S (dh G.y)) e/\TX w' F p s (cR+2) q l m t n S G (T.dr G S (dh G.y)).2.2/\ad (cq F t n) w2 w'):=λw2 hb=>C3 (dj.later hb) (gM.later hb) (dh G.y) (Ax h.yk);have HTK:Yh ((T.il G S (dh G.y))=match (T.dr G S (dh G.y)).1 with|some x=>((x:Int),0,(T.dr G S (dh G.y)).2.2)|none=>(0,(T.dr G S (dh G.y)).2.1,((T.dr G S (dh G.y)).2.2.aT G S (T.dr G S (dh G.y)).2.1).2)):=rfl;have c0:w1.drew.cell? ⟨w.heap.size,0,none⟩=some (.pointer (some ⟨a,0,none⟩)):=aa gm (j:=0) rfl;have n1:¬cq F t n w.heap.size:=λhf=>by have:=aS _ hf;omega
 have n2:¬cq F t n (w.heap.size+1):=λhf=>by have:=aS _ hf;omega
 have HG:=yh (And.intro gm dU);have HB:=yh aH;have HP:=yh gM;have rn:=yh h.low;have gh:=hp.lt;generalize T.il G S (dh G.y)=Z at*;generalize T.dr G S (dh G.y)=R at*;generalize fe (dh G.y)=V at*;have J4:w.heap.size+1≠t:=λe=>n2 (.inr (.inl e));clear h hp aH dj gM gm dU
 go_enter_defers func69,ntmps69
 go_wp2_with fail;rw [<-bd];clear bd;refine jn (Ia [{target:= .fn (.func 111) #[.pointer (some ⟨w.heap.size,0,none⟩), .pointer (some ⟨w.heap.size+1,0,none⟩)],args:= #[]}] [(2, .int .i64 0),(3, .pointer (some ⟨w.heap.size+1,0,none⟩))] (λc w3=>∃x,c=iD x/\Z=(0,x,(R.2.2.aT G S x).2)/\TX w3 F p s (cR+2) q l m t n S G R.2.2/\ad (cq F t n) w w3/\ar w3 F a t n/\w3.heap[w.heap.size]? =some (.cells #[.pointer (some ⟨a,0,none⟩)] 35 (0,0))/\w3.heap[w.heap.size+1]? =some (.cells #[.int .i64 0] 39 (0,0)))) ?_ ?_
 .rintro c A w3 ⟨hd,kD,x,rfl,hZ,gy,aR,nL,g1,g2⟩;have s2:=kD (2, .int .i64 0) (by simp);have s3:=kD (3, .pointer (some ⟨w.heap.size+1,0,none⟩)) (by simp)
  dsimp only at s2 s3
  rw [Array.getD_eq_getD_getElem?] at s2 s3;go_wp2;show Leaves prog _ A.tmps _ A.defers _ w3;rw [hd];refine leaves_cons (f:=111) (args:= #[.pointer (some ⟨w.heap.size,0,none⟩), .pointer (some ⟨w.heap.size+1,0,none⟩)]) (by simp) (by simp [go_sem]) ?_;refine(At gy nL g1 g2 J4 x).mono ?_;rintro e u' w4 ⟨rfl,rfl,w5,rW,cB,gc,jP⟩;have q2:w4.cell? ⟨w.heap.size+1,0,none⟩=some (.int .i64 x):=aa gc (j:=0) rfl;simp [Leaves,settle,results,results69,go_sem,s2,s3,q2,hZ];exact⟨rW.side rn.o jP (λk e=>by omega),(aR.trans cB (λ_ e=> .inl (.inr (.inl e)))).trans jP (λk e=> .inr (by omega))⟩
 refine wp_region_held_drew (S:=(λw'=>w'.cell? ⟨w.heap.size,0,none⟩=some (.pointer (some ⟨a,0,none⟩)))) (by kernel_rfl) (c0) (λaC=>?_);refine wpAnyH_take (i:=0) (oi:={dst:=some 5,op:=Op.load 35 (Operand.tmp 1),type:=35,pos:= "pool.go:30",after:= #[],guard:=none}) (v:= .pointer (some ⟨a,0,none⟩)) rfl (by kernel_rfl) (by kernel_rfl) (by kernel_rfl) (dZ (d:=5) (by simp)) (Or.inl ⟨by rfl,?_⟩) (by assumption) ?_
 .intro w aw
  (try dsimp only at aw)
  go_simp
 try simp only [Act.put,List.setIfInBounds_toArray,List.set_cons_zero,List.set_cons_succ]
 refine wpAnyH_take (i:=1) (oi:={dst:=some 6,op:=Op.load 35 (Operand.tmp 1),type:=35,pos:= "pool.go:30",after:= #[],guard:=none}) (v:= .pointer (some ⟨a,0,none⟩)) rfl (by kernel_rfl) (by kernel_rfl) (by kernel_rfl) (dZ (d:=6) (by simp)) (Or.inl ⟨by rfl,?_⟩) (by assumption) ?_
 .intro w aw
  (try dsimp only at aw)
  go_simp
 try simp only [Act.put,List.setIfInBounds_toArray,List.set_cons_zero,List.set_cons_succ]
 refine wpAnyH_ready (rs:= [2]) (by kernel_rfl) (by simp) ?_;refine AllReadyH.cons (o:={dst:=some 7,op:=Op.call {callee:=Callee.value (Operand.func 25),args:= #[Operand.tmp 6],argTypes:= #[35]},type:=61,pos:= "pool.go:30",after:= #[{on:=1,ground:=Ground.data}],guard:=none}) rfl (λK hK=>?_) AllReadyH.nil;go_simp;refine aA.mono ?_;rintro e w2 ⟨rfl,aG⟩;have om:w2.cell? ⟨w.heap.size,0,none⟩=some (.pointer (some ⟨a,0,none⟩)):=aa ((aG.block _ (af HG.o.1)).trans HG.o.1) (j:=0) rfl;refine hK.out _ _ ?_ (λaC=>?_)
 .exact om
 clear hK K;try simp only [Act.put,List.setIfInBounds_toArray,List.set_cons_zero,List.set_cons_succ]
 refine wpAnyH_ready (rs:= [3]) (by kernel_rfl) (by simp) ?_;refine AllReadyH.cons (o:={dst:=some 8,op:=Op.call {callee:=Callee.value (Operand.func 112),args:= #[Operand.tmp 5,Operand.tmp 7],argTypes:= #[35,61]},type:=3,pos:= "pool.go:30",after:= #[{on:=0,ground:=Ground.data},{on:=2,ground:=Ground.data},{on:=2,ground:=Ground.chain}],guard:=none}) rfl (λK hK=>?_) AllReadyH.nil;go_simp;refine(HT.o w2 aG).mono ?_;rintro e w3 ⟨sN,gy,aR⟩;have ph:=(ad.ag (cq F t n) HB.o).trans ((ad.ag (cq F t n) aG).trans aR (λ_ h=> .inl h)) (λ_ h=> .inl h);have g1:=(aR.block _ (Nat.lt_of_lt_of_le (af HG.o.1) aG.size) n1).trans ((aG.block _ (af HG.o.1)).trans HG.o.1);have g2:=(aR.block _ (Nat.lt_of_lt_of_le (af HG.o.2) aG.size) n2).trans ((aG.block _ (af HG.o.2)).trans HG.o.2);have nL:=(HP.o.later aG).ak aR;have HQ:Yh (TX w3 F p s (cR+2) q l m t n S G R.2.2/\ad (cq F t n) w w3/\ar w3 F a t n):=⟨gy,ph,nL⟩;have mh:=yh (And.intro g1 g2);have Fw:=HTK.o;unfold yC at sN;have sO:w3.cell? ⟨w.heap.size,0,none⟩=some (.pointer (some ⟨a,0,none⟩)):=aa g1 (j:=0) rfl;have d0:w3.cell? ⟨w.heap.size+1,0,none⟩=some (.int .i64 0):=aa g2 (j:=0) rfl;have f0:=ae g2 0;clear aA aG c0 om gy aR ph g1 g2 nL;cases cI:R.1 with
 |none=>
  rw [cI] at sN Fw
  dsimp only at sN Fw
  subst sN;exact⟨rfl,by simp,_,rfl,Fw,HQ.o.1,HQ.o.2.1,HQ.o.2.2,mh.o.1,mh.o.2⟩
 |some x=>
  rw [cI] at sN Fw
  dsimp only at sN Fw
  subst sN;have Un:=yh Fw;clear Fw cI;refine hK.out _ _ ?_ (λaC=>?_)
  .exact sO
  clear hK K;try simp only [Act.put,List.setIfInBounds_toArray,List.set_cons_zero,List.set_cons_succ]
  refine wpAnyH_ready (rs:= [4]) (by kernel_rfl) (by simp) ?_;refine AllReadyH.cons (o:={dst:=some 2,op:=Op.assign (Operand.tmp 8),type:=3,pos:= "pool.go:30",after:= #[{on:=3,ground:=Ground.data},{on:=3,ground:=Ground.chain},{on:=0,ground:=Ground.phase},{on:=1,ground:=Ground.phase},{on:=2,ground:=Ground.phase},{on:=3,ground:=Ground.phase}],guard:=none}) rfl (λK hK=>?_) AllReadyH.nil;go_simp;refine hK.out _ _ ?_ (λaC=>?_)
  .exact sO
  clear hK K;try simp only [Act.put,List.setIfInBounds_toArray,List.set_cons_zero,List.set_cons_succ]
  have pe:=iK (w:=w3) (w':=w3) (x:=0) (.int .i64 0) rfl (ad.refl _ _) mh.o.2;have c9:(w3.setCell ⟨w.heap.size+1,0,none⟩ (.int .i64 0)).cell? ⟨w.heap.size,0,none⟩=some (.pointer (some ⟨a,0,none⟩)):=aa ((pe.2.block _ (af mh.o.1) (by omega)).trans mh.o.1) (j:=0) rfl;refine wpAnyH_ready (rs:= [5]) (by kernel_rfl) (by simp) ?_;refine AllReadyH.cons (o:={dst:=none,op:=Op.store 39 (Operand.tmp 3) (Operand.const (Value.int IntKind.i64 0)),type:=0,pos:= "pool.go:30",after:= #[{on:=4,ground:=Ground.chain},{on:=0,ground:=Ground.phase},{on:=1,ground:=Ground.phase},{on:=2,ground:=Ground.phase},{on:=3,ground:=Ground.phase},{on:=4,ground:=Ground.phase}],guard:=none}) rfl (λK hK=>?_) AllReadyH.nil;go_simp;refine hK.out _ _ ?_ (λaC=>?_)
  .exact c9
  clear hK K;try simp only [Act.put,List.setIfInBounds_toArray,List.set_cons_zero,List.set_cons_succ]
  refine wpAnyH_done (by kernel_rfl) ?_ _
  dsimp only [wY]
  obtain⟨w4,mD⟩:∃w4,w4=w3.setCell ⟨w.heap.size+1,0,none⟩ (.int .i64 0):=⟨_,rfl⟩;rw [<-mD] at pe;rw [<-mD];clear mD aC c9;have nJ:=yh pe;clear pe sO d0 f0;go_wp2;refine leaves_cons (f:=111) (args:= #[.pointer (some ⟨w.heap.size,0,none⟩), .pointer (some ⟨w.heap.size+1,0,none⟩)]) (by simp) (by simp [go_sem]) ?_;have z8:ar w4 F a t n:=⟨(nJ.o.2.block a HQ.o.2.2.lt (by omega)).trans HQ.o.2.2.b,HQ.o.2.2.nf⟩;have g4:=(nJ.o.2.block _ (af mh.o.1) (by omega)).trans mh.o.1;refine(CX z8 g4 nJ.o.1).mono ?_;rintro e u' w5 ⟨rfl,rfl,gc,cB⟩;have q2:w5.cell? ⟨w.heap.size+1,0,none⟩=some (.int .i64 0):=aa gc (j:=0) rfl;simp [Leaves,settle,results,results69,go_sem,q2,Un.o];exact⟨(HQ.o.1.side rn.o nJ.o.2 (λk e=>by omega)).side rn.o cB (λk e=>by omega),(HQ.o.2.1.trans nJ.o.2 (λk e=> .inr (by omega))).trans cB (λk e=> .inr (by omega))⟩
theorem rp (h:TX w F p s cR q l m t n S G T) (hp:ar w F a t n):
  Calls prog 73 #[.pointer (some ⟨a,0,none⟩)] w λe w'=>e= .returned (.tuple #[.int .i64 (T.il G S (dX G.y)).1, .int .i64 (T.il G S (dX G.y)).2.1])/\TX w' F p s (cR+2) q l m t n S G (T.il G S (dX G.y)).2.2/\ad (cq F t n) w w':=by
 obtain⟨aH,gm,dU,jx⟩:=vD w (.cells #[.pointer (some ⟨a,0,none⟩)] 35) (.cells #[.int .i64 0] 39);obtain⟨w1,bd⟩:∃w1,w1=(w.alloc (.cells #[.pointer (some ⟨a,0,none⟩)] 35)).alloc (.cells #[.int .i64 0] 39):=⟨_,rfl⟩;rw [<-bd] at aH gm dU jx;have aS:=h.lt;have dj:=h.later aH;have gM:=hp.later aH;have aA:=oR dj gM;have HT:Yh (∀w2,Below w1.drew.heap.size w1.drew w2->Calls prog 112 #[.pointer (some ⟨a,0,none⟩),fe (dX G.y)] w2 λe w'=>yC (T.dr G S (dX G.y)) e/\TX w' F p s (cR+2) q l m t n S G (T.dr G S (dX G.y)).2.2/\ad (cq F t n) w2 w'):=λw2 hb=>C3 (dj.later hb) (gM.later hb) (dX G.y) (Ay h.yk);have HTK:Yh ((T.il G S (dX G.y))=match (T.dr G S (dX G.y)).1 with|some x=>((x:Int),0,(T.dr G S (dX G.y)).2.2)|none=>(0,(T.dr G S (dX G.y)).2.1,((T.dr G S (dX G.y)).2.2.aT G S (T.dr G S (dX G.y)).2.1).2)):=rfl;have c0:w1.drew.cell? ⟨w.heap.size,0,none⟩=some (.pointer (some ⟨a,0,none⟩)):=aa gm (j:=0) rfl;have n1:¬cq F t n w.heap.size:=λhf=>by have:=aS _ hf;omega
 have n2:¬cq F t n (w.heap.size+1):=λhf=>by have:=aS _ hf;omega
 have HG:=yh (And.intro gm dU);have HB:=yh aH;have HP:=yh gM;have rn:=yh h.low;have gh:=hp.lt;generalize T.il G S (dX G.y)=Z at*;generalize T.dr G S (dX G.y)=R at*;generalize fe (dX G.y)=V at*;have J4:w.heap.size+1≠t:=λe=>n2 (.inr (.inl e));clear h hp aH dj gM gm dU
 go_enter_defers func73,ntmps73
 go_wp2_with fail;rw [<-bd];clear bd;refine jn (Ia [{target:= .fn (.func 116) #[.pointer (some ⟨w.heap.size,0,none⟩), .pointer (some ⟨w.heap.size+1,0,none⟩)],args:= #[]}] [(2, .int .i64 0),(3, .pointer (some ⟨w.heap.size+1,0,none⟩))] (λc w3=>∃x,c=iD x/\Z=(0,x,(R.2.2.aT G S x).2)/\TX w3 F p s (cR+2) q l m t n S G R.2.2/\ad (cq F t n) w w3/\ar w3 F a t n/\w3.heap[w.heap.size]? =some (.cells #[.pointer (some ⟨a,0,none⟩)] 35 (0,0))/\w3.heap[w.heap.size+1]? =some (.cells #[.int .i64 0] 39 (0,0)))) ?_ ?_
 .rintro c A w3 ⟨hd,kD,x,rfl,hZ,gy,aR,nL,g1,g2⟩;have s2:=kD (2, .int .i64 0) (by simp);have s3:=kD (3, .pointer (some ⟨w.heap.size+1,0,none⟩)) (by simp)
  dsimp only at s2 s3
  rw [Array.getD_eq_getD_getElem?] at s2 s3;go_wp2;show Leaves prog _ A.tmps _ A.defers _ w3;rw [hd];refine leaves_cons (f:=116) (args:= #[.pointer (some ⟨w.heap.size,0,none⟩), .pointer (some ⟨w.heap.size+1,0,none⟩)]) (by simp) (by simp [go_sem]) ?_;refine(Au gy nL g1 g2 J4 x).mono ?_;rintro e u' w4 ⟨rfl,rfl,w5,rW,cB,gc,jP⟩;have q2:w4.cell? ⟨w.heap.size+1,0,none⟩=some (.int .i64 x):=aa gc (j:=0) rfl;simp [Leaves,settle,results,results73,go_sem,s2,s3,q2,hZ];exact⟨rW.side rn.o jP (λk e=>by omega),(aR.trans cB (λ_ e=> .inl (.inr (.inl e)))).trans jP (λk e=> .inr (by omega))⟩
 refine wp_region_held_drew (S:=(λw'=>w'.cell? ⟨w.heap.size,0,none⟩=some (.pointer (some ⟨a,0,none⟩)))) (by kernel_rfl) (c0) (λaC=>?_);refine wpAnyH_take (i:=0) (oi:={dst:=some 5,op:=Op.load 35 (Operand.tmp 1),type:=35,pos:= "pool.go:43",after:= #[],guard:=none}) (v:= .pointer (some ⟨a,0,none⟩)) rfl (by kernel_rfl) (by kernel_rfl) (by kernel_rfl) (dZ (d:=5) (by simp)) (Or.inl ⟨by rfl,?_⟩) (by assumption) ?_
 .intro w aw
  (try dsimp only at aw)
  go_simp
 try simp only [Act.put,List.setIfInBounds_toArray,List.set_cons_zero,List.set_cons_succ]
 refine wpAnyH_take (i:=1) (oi:={dst:=some 6,op:=Op.load 35 (Operand.tmp 1),type:=35,pos:= "pool.go:43",after:= #[],guard:=none}) (v:= .pointer (some ⟨a,0,none⟩)) rfl (by kernel_rfl) (by kernel_rfl) (by kernel_rfl) (dZ (d:=6) (by simp)) (Or.inl ⟨by rfl,?_⟩) (by assumption) ?_
 .intro w aw
  (try dsimp only at aw)
  go_simp
 try simp only [Act.put,List.setIfInBounds_toArray,List.set_cons_zero,List.set_cons_succ]
 refine wpAnyH_ready (rs:= [2]) (by kernel_rfl) (by simp) ?_;refine AllReadyH.cons (o:={dst:=some 7,op:=Op.call {callee:=Callee.value (Operand.func 26),args:= #[Operand.tmp 6],argTypes:= #[35]},type:=61,pos:= "pool.go:43",after:= #[{on:=1,ground:=Ground.data}],guard:=none}) rfl (λK hK=>?_) AllReadyH.nil;go_simp;refine aA.mono ?_;rintro e w2 ⟨rfl,aG⟩;have om:w2.cell? ⟨w.heap.size,0,none⟩=some (.pointer (some ⟨a,0,none⟩)):=aa ((aG.block _ (af HG.o.1)).trans HG.o.1) (j:=0) rfl;refine hK.out _ _ ?_ (λaC=>?_)
 .exact om
 clear hK K;try simp only [Act.put,List.setIfInBounds_toArray,List.set_cons_zero,List.set_cons_succ]
 refine wpAnyH_ready (rs:= [3]) (by kernel_rfl) (by simp) ?_;refine AllReadyH.cons (o:={dst:=some 8,op:=Op.call {callee:=Callee.value (Operand.func 112),args:= #[Operand.tmp 5,Operand.tmp 7],argTypes:= #[35,61]},type:=3,pos:= "pool.go:43",after:= #[{on:=0,ground:=Ground.data},{on:=2,ground:=Ground.data},{on:=2,ground:=Ground.chain}],guard:=none}) rfl (λK hK=>?_) AllReadyH.nil;go_simp;refine(HT.o w2 aG).mono ?_;rintro e w3 ⟨sN,gy,aR⟩;have ph:=(ad.ag (cq F t n) HB.o).trans ((ad.ag (cq F t n) aG).trans aR (λ_ h=> .inl h)) (λ_ h=> .inl h);have g1:=(aR.block _ (Nat.lt_of_lt_of_le (af HG.o.1) aG.size) n1).trans ((aG.block _ (af HG.o.1)).trans HG.o.1);have g2:=(aR.block _ (Nat.lt_of_lt_of_le (af HG.o.2) aG.size) n2).trans ((aG.block _ (af HG.o.2)).trans HG.o.2);have nL:=(HP.o.later aG).ak aR;have HQ:Yh (TX w3 F p s (cR+2) q l m t n S G R.2.2/\ad (cq F t n) w w3/\ar w3 F a t n):=⟨gy,ph,nL⟩;have mh:=yh (And.intro g1 g2);have Fw:=HTK.o;unfold yC at sN;have sO:w3.cell? ⟨w.heap.size,0,none⟩=some (.pointer (some ⟨a,0,none⟩)):=aa g1 (j:=0) rfl;have d0:w3.cell? ⟨w.heap.size+1,0,none⟩=some (.int .i64 0):=aa g2 (j:=0) rfl;have f0:=ae g2 0;clear aA aG c0 om gy aR ph g1 g2 nL;cases cI:R.1 with
 |none=>
  rw [cI] at sN Fw
  dsimp only at sN Fw
  subst sN;exact⟨rfl,by simp,_,rfl,Fw,HQ.o.1,HQ.o.2.1,HQ.o.2.2,mh.o.1,mh.o.2⟩
 |some x=>
  rw [cI] at sN Fw
  dsimp only at sN Fw
  subst sN;have Un:=yh Fw;clear Fw cI;refine hK.out _ _ ?_ (λaC=>?_)
  .exact sO
  clear hK K;try simp only [Act.put,List.setIfInBounds_toArray,List.set_cons_zero,List.set_cons_succ]
  refine wpAnyH_ready (rs:= [4]) (by kernel_rfl) (by simp) ?_;refine AllReadyH.cons (o:={dst:=some 2,op:=Op.assign (Operand.tmp 8),type:=3,pos:= "pool.go:43",after:= #[{on:=3,ground:=Ground.data},{on:=3,ground:=Ground.chain},{on:=0,ground:=Ground.phase},{on:=1,ground:=Ground.phase},{on:=2,ground:=Ground.phase},{on:=3,ground:=Ground.phase}],guard:=none}) rfl (λK hK=>?_) AllReadyH.nil;go_simp;refine hK.out _ _ ?_ (λaC=>?_)
  .exact sO
  clear hK K;try simp only [Act.put,List.setIfInBounds_toArray,List.set_cons_zero,List.set_cons_succ]
  have pe:=iK (w:=w3) (w':=w3) (x:=0) (.int .i64 0) rfl (ad.refl _ _) mh.o.2;have c9:(w3.setCell ⟨w.heap.size+1,0,none⟩ (.int .i64 0)).cell? ⟨w.heap.size,0,none⟩=some (.pointer (some ⟨a,0,none⟩)):=aa ((pe.2.block _ (af mh.o.1) (by omega)).trans mh.o.1) (j:=0) rfl;refine wpAnyH_ready (rs:= [5]) (by kernel_rfl) (by simp) ?_;refine AllReadyH.cons (o:={dst:=none,op:=Op.store 39 (Operand.tmp 3) (Operand.const (Value.int IntKind.i64 0)),type:=0,pos:= "pool.go:43",after:= #[{on:=4,ground:=Ground.chain},{on:=0,ground:=Ground.phase},{on:=1,ground:=Ground.phase},{on:=2,ground:=Ground.phase},{on:=3,ground:=Ground.phase},{on:=4,ground:=Ground.phase}],guard:=none}) rfl (λK hK=>?_) AllReadyH.nil;go_simp;refine hK.out _ _ ?_ (λaC=>?_)
  .exact c9
  clear hK K;try simp only [Act.put,List.setIfInBounds_toArray,List.set_cons_zero,List.set_cons_succ]
  refine wpAnyH_done (by kernel_rfl) ?_ _
  dsimp only [wY]
  obtain⟨w4,mD⟩:∃w4,w4=w3.setCell ⟨w.heap.size+1,0,none⟩ (.int .i64 0):=⟨_,rfl⟩;rw [<-mD] at pe;rw [<-mD];clear mD aC c9;have nJ:=yh pe;clear pe sO d0 f0;go_wp2;refine leaves_cons (f:=116) (args:= #[.pointer (some ⟨w.heap.size,0,none⟩), .pointer (some ⟨w.heap.size+1,0,none⟩)]) (by simp) (by simp [go_sem]) ?_;have z8:ar w4 F a t n:=⟨(nJ.o.2.block a HQ.o.2.2.lt (by omega)).trans HQ.o.2.2.b,HQ.o.2.2.nf⟩;have g4:=(nJ.o.2.block _ (af mh.o.1) (by omega)).trans mh.o.1;refine(CY z8 g4 nJ.o.1).mono ?_;rintro e u' w5 ⟨rfl,rfl,gc,cB⟩;have q2:w5.cell? ⟨w.heap.size+1,0,none⟩=some (.int .i64 0):=aa gc (j:=0) rfl;simp [Leaves,settle,results,results73,go_sem,q2,Un.o];exact⟨(HQ.o.1.side rn.o nJ.o.2 (λk e=>by omega)).side rn.o cB (λk e=>by omega),(HQ.o.2.1.trans nJ.o.2 (λk e=> .inr (by omega))).trans cB (λk e=> .inr (by omega))⟩
end
end
section
def jC:List Bool->Nat
 | []=>0
 |b :: bs=>(if b then 0 else 1)+jC bs
theorem tE:∀{l:List Bool},jC l=0->∀(i:Nat),i<l.length->l.getD i false=true
 |b :: bs,h,0,_=>by
  cases b
  .simp [jC] at h
  .rfl
 |b :: bs,h,i+1,hi=>by
  have h1:jC bs=0:=by unfold jC at h;omega
  have:=tE h1 i (by simpa using hi);simpa [List.getD] using this
theorem vE:∀{l:List Bool} {i:Nat},i<l.length->l.getD i false=false->jC (l.set i true)+1=jC l
 |b :: bs,0,_,h=>by
  have hb:b=false:=by simpa [List.getD] using h
  subst hb;simp only [List.set_cons_zero,jC];simp;omega
 |b :: bs,i+1,hi,h=>by
  have h1:=vE (l:=bs) (i:=i) (by simpa using hi) (by simpa [List.getD] using h);simp only [List.set_cons_succ,jC];omega
theorem yE (L:Array Bool) (i:Nat) (d:Bool):L.getD i d=L.toList.getD i d:=by
 simp [Array.getD_eq_getD_getElem?,List.getD]
section
variable {P:Program} {ops:Array Oper} {Q:Exit->Act->World->Prop}
theorem J5 (J:Array Bool->Act->World->Prop)
    (yF:∀i o,ops[i]? =some o->∀L a w,J L a w->i<L.size->L.getD i false=false->(∀e∈o.after,Region.binds .any e=true->L.getD e.on false=true)->∀K':Act->World->Prop,Shut (∀a w,J (L.setIfInBounds i true) a w->K' a w)->if Region.wanted o (yielded ops a.tmps)=true then Oper.wp P o a w K' Q else K' (a.put o.dst undef) w)
    (oe:∀L a w,J L a w->(∀i,i<L.size->L.getD i false=true)->Q .normal a w)
    (QV:∀i o,ops[i]? =some o->∀e∈o.after,Region.binds .any e=true->e.on<i):
  ∀(fuel:Nat) (L:Array Bool) (a:Act) (w:World),L.size=ops.size->jC L.toList=fuel->J L a w->wpAny P .any ops Q fuel L a w:=by
 have mem:∀(L:Array Bool) (i:Nat),i∈Region.ready .any ops L↔(i<ops.size/\L.getD i true=false/\∃o,ops[i]? =some o/\∀e∈o.after,Region.binds .any e=true->L.getD e.on false=true):=by
  intro L i;unfold Region.ready;rw [List.mem_filter,List.mem_range];constructor
  .rintro ⟨h1,h2⟩;rw [Bool.and_eq_true] at h2;obtain⟨h2,h3⟩:=h2;have ho:ops[i]? =some ops[i]:=Array.getElem?_eq_getElem h1;rw [ho] at h3;refine⟨h1,by simpa using h2,_,ho,λe he hb=>?_⟩;simp only [Option.map_some,Option.getD_some,Array.all_eq_true_iff_forall_mem] at h3;have:=h3 e he;rw [hb] at this;simpa using this
  .rintro ⟨h1,h2,o,ho,h3⟩;refine⟨h1,?_⟩;rw [Bool.and_eq_true];refine⟨by simp [h2],?_⟩;rw [ho];simp only [Option.map_some,Option.getD_some,Array.all_eq_true_iff_forall_mem];intro e he;cases hb:Region.binds .any e
   .rfl
   .simpa using h3 e he hb
 have all:∀(L:Array Bool),L.size=ops.size->Region.ready .any ops L= []->∀i,i<L.size->L.getD i false=true:=by
  intro L hL hr i
  induction i using Nat.strongRecOn with
  |_ i ih=>
   intro hi;cases hb:L.getD i false with
   |true=>rfl
   |false=>
    exfalso;have ho:ops[i]? =some (ops[i]'(by omega)):=Array.getElem?_eq_getElem (by omega);have ht:L.getD i true=false:=by
     rw [Array.getD_eq_getD_getElem?,Array.getElem?_eq_getElem hi] at hb⊢;exact hb
    have:i∈Region.ready .any ops L:=(mem L i).2 ⟨by omega,ht,_,ho,λe he TL=>ih e.on (QV i _ ho e he TL) (by have:=QV i _ ho e he TL;omega)⟩;rw [hr] at this;cases this
 intro fuel
 induction fuel with
 |zero=>
  intro L a w hL hf hJ;have h1:∀i,i<L.size->L.getD i false=true:=λi hi=>by
   rw [yE];exact tE hf i (by simpa using hi)
  refine⟨?_,oe L a w hJ h1⟩;cases hr:Region.ready .any ops L with
  |nil=>rfl
  |cons x xs=>
   exfalso;obtain⟨m1,m2,_⟩:=(mem L x).1 (by rw [hr];exact List.mem_cons_self ..);have:=h1 x (by omega);rw [Array.getD_eq_getD_getElem?,Array.getElem?_eq_getElem (by omega:x<L.size)] at m2 this;simp at m2 this;rw [this] at m2;cases m2
 |succ fuel ih=>
  intro L a w hL hf hJ;refine⟨λhr=>oe L a w hJ (all L hL hr),λi hi=>?_⟩;obtain⟨m1,m2,o,ho,m3⟩:=(mem L i).1 hi;have aS:i<L.size:=by omega
  have nj:L.getD i false=false:=by
   rw [Array.getD_eq_getD_getElem?,Array.getElem?_eq_getElem aS] at m2⊢;exact m2
  refine wpOp_step ho (λK' hK=>yF i o ho L a w hJ aS nj m3 K' (λa' w' hJ'=>hK a' w' (ih _ a' w' (by simpa using hL) ?_ hJ')));have:=vE (l:=L.toList) (i:=i) (by simpa using aS) (by rw [<-yE];exact nj);rw [Array.toList_setIfInBounds];omega
theorem vF:∀n,jC (List.replicate n false)=n
 |0=>rfl
 |n+1=>by
  rw [List.replicate_succ];simp only [jC,vF n];simp;omega
theorem wZ {id:Nat} {a:Act} {w:World} (hm:P.follows .mixedOrders=true) (J:Array Bool->Act->World->Prop) (h0:J (Array.replicate ops.size false) a w.drew)
    (yF:∀i o,ops[i]? =some o->∀L a w,J L a w->i<L.size->L.getD i false=false->(∀e∈o.after,Region.binds .any e=true->L.getD e.on false=true)->∀K':Act->World->Prop,Shut (∀a w,J (L.setIfInBounds i true) a w->K' a w)->if Region.wanted o (yielded ops a.tmps)=true then Oper.wp P o a w K' Q else K' (a.put o.dst undef) w)
    (oe:∀L a w,J L a w->(∀i,i<L.size->L.getD i false=true)->Q .normal a w)
    (QV:∀i o,ops[i]? =some o->∀e∈o.after,Region.binds .any e=true->e.on<i):(Code.region id ops true).wp P Q a w:=
 wp_region_any hm (J5 J yF oe QV ops.size _ a _ (by simp) (by rw [Array.toList_replicate];exact vF _) h0)
end
end
section
def XO (ops:Array Oper):Bool:=(List.range ops.size).all λi=>((ops[i]?).map (·.after.all λe=> !Region.binds .any e || decide (e.on<i))).getD true
theorem Uo {ops:Array Oper} (h:XO ops=true):∀i o,ops[i]? =some o->∀e∈o.after,Region.binds .any e=true->e.on<i:=by
 intro i o ho e he hb;unfold XO at h;rw [List.all_eq_true] at h;have h1:=h i (List.mem_range.2 (Array.getElem?_eq_some_iff.1 ho).1);rw [ho] at h1;simp only [Option.map_some,Option.getD_some,Array.all_eq_true_iff_forall_mem] at h1;have:=h1 e he;rw [hb] at this;simpa using this
theorem acB {L:Array Bool} {i:Nat} (h:i<L.size) (j:Nat):(L.setIfInBounds i true).getD j false=if j=i then true else L.getD j false:=by
 simp only [Array.getD_eq_getD_getElem?];by_cases e:j=i
 .subst e;rw [Array.getElem?_setIfInBounds_self_of_lt h,if_pos rfl];rfl
 .rw [Array.getElem?_setIfInBounds_ne (λh=>e h.symm),if_neg e]
section
variable {w:World} {F:Nat->Prop} {p s cR q l m t n a:Nat} {S:DS} {G:SG} {T:TG}
structure CW (w0 w:World) (B:Nat) (F:Nat->Prop) (p s cR q l m t n a:Nat) (S:DS) (G:SG) (T:TG):Prop where
 x:TX w F p s cR q l m t n S G T
 p:ar w F a t n
 b1:w.heap[B]? =some (.cells #[.pointer (some ⟨a,0,none⟩)] 35 (0,0))
 b2:w.heap[B+1]? =some (.cells #[.int .i64 0] 39 (0,0))
 lo:Below w0.heap.size w0 w
 lx:Uc w0.heap.size F q l m t n
 la:a<w0.heap.size
 lb:B+1<w0.heap.size
theorem CW.later {w0 w w':World} {B:Nat} (h:CW w0 w B F p s cR q l m t n a S G T) (hb:Below w.heap.size w w'):CW w0 w' B F p s cR q l m t n a S G T:=
   ⟨h.x.later hb,h.p.later hb,(hb.block _ (af h.b1)).trans h.b1,(hb.block _ (af h.b2)).trans h.b2,h.lo.trans (hb.mono h.lo.size),h.lx,h.la,h.lb⟩
theorem CW.side {w0 w w':World} {B g:Nat} (h:CW w0 w B F p s cR q l m t n a S G T) (hg:w0.heap.size<=g) (hk:ad (λk=>k=g) w w'):CW w0 w' B F p s cR q l m t n a S G T:=by
 have h1:=h.la;have h2:=h.lb;exact⟨h.x.side h.lx hk (λk e=>by omega),⟨(hk.block a h.p.lt (by omega)).trans h.p.b,h.p.nf⟩,(hk.block _ (af h.b1) (by omega)).trans h.b1,(hk.block _ (af h.b2) (by omega)).trans h.b2,h.lo.trans (hk.below (λk e=>by omega) h.lo.size),h.lx,h.la,h.lb⟩
def Sf (w0 w:World) (x:Value) (c:Array Value):Prop:=∃g,x= .pointer (some ⟨g,0,none⟩)/\w0.heap.size<=g/\w.heap[g]? =some (.cells c 61 (0,0))
theorem Sf.later {w0 w w':World} {x:Value} {c:Array Value} (h:Sf w0 w x c) (hb:Below w.heap.size w w'):Sf w0 w' x c:=by
 obtain⟨g,e,h1,h2⟩:=h;exact⟨g,e,h1,(hb.block _ (af h2)).trans h2⟩
theorem Sf.tM {w0 w w':World} {x y:Value} {c:Array Value} {g:Nat} (h:Sf w0 w x c) (hy:y= .pointer (some ⟨g,0,none⟩)) (hn:x≠y) (hk:ad (λk=>k=g) w w'):Sf w0 w' x c:=by
 obtain⟨g',e,h1,h2⟩:=h;refine⟨g',e,h1,(hk.block _ (af h2) (λe'=>hn ?_)).trans h2⟩;rw [e,hy,e']
theorem Ib {w:World} {g:Nat} {E:TypeId} {a b c d e a' b' c' d' e':Value} (h:w.heap[g]? =some (.cells #[a,b,c,d,e] E (0,0))):(w.setCells g 0 [a',b',c',d',e']).heap[g]? =some (.cells #[a',b',c',d',e'] E (0,0)):=by
 exact IE a' b' c' d' e' h
def JC (w0:World) (w:World) (F:Nat->Prop) (p s cR q l m t n a:Nat) (S:DS) (G:SG) (T:TG) (f:Nat->Bool) (A:Act) (w':World):Prop:=
 ∃x3 x4 x6 x7 x8 x9:Value,A={tmps:= #[.pointer (some ⟨a,0,none⟩), .pointer (some ⟨w.heap.size,0,none⟩), .pointer (some ⟨w.heap.size+1,0,none⟩),x3,x4, .func (.func 22) #[] #[.pointer (some ⟨w.heap.size,0,none⟩), .pointer (some ⟨w.heap.size+1,0,none⟩)],x6,x7,x8,x9,undef,undef,undef,undef,undef,undef,undef,undef,undef,undef],defers:= [{target:= .fn (.func 22) #[.pointer (some ⟨w.heap.size,0,none⟩), .pointer (some ⟨w.heap.size+1,0,none⟩)],args:= #[]}]}/\CW w0 w' w.heap.size F p s cR q l m t n a S G T/\(f 0=true->x6= .pointer (some ⟨a,0,none⟩))/\(f 1=true->x7=fe (dh G.y))/\(f 2=true->x8= .pointer (some ⟨a,0,none⟩))/\(f 3=true->x9=fe (dX G.y))/\(f 4=true->Sf w0 w' x3 (if f 6=true then #[.int .i64 ((dh G.y).bm:Int), .int .i64 ((dh G.y).zero:Int), .int .i64 ((dh G.y).first:Int), .int .i64 (((dh G.y).first:Int)+((dh G.y).bf:Int)-1), .int .i64 (dh G.y).no] else #[.int .i64 0, .int .i64 0, .int .i64 0, .int .i64 0, .int .i64 0]))/\(f 5=true->Sf w0 w' x4 (if f 7=true then #[.int .i64 ((dX G.y).bm:Int), .int .i64 ((dX G.y).zero:Int), .int .i64 ((dX G.y).first:Int), .int .i64 (((dX G.y).first:Int)+((dX G.y).bf:Int)-1), .int .i64 (dX G.y).no] else #[.int .i64 0, .int .i64 0, .int .i64 0, .int .i64 0, .int .i64 0]))/\(f 4=true->f 5=true->x3≠x4)/\(f 6=true->f 4=true)/\(f 7=true->f 5=true)
theorem Nt {w0:World} {Q:Exit->Act->World->Prop} {v3 v4 v6 v7 v8 v9:Value} {w1:World} (hw:w1.drew=w0) (hC:CW w0 w0 w.heap.size F p s cR q l m t n a S G T)
    (hQ:∀g3 g4 w',CW w0 w' w.heap.size F p s cR q l m t n a S G T->w0.heap.size<=g3->w0.heap.size<=g4->g3≠g4->w'.heap[g3]? =some (.cells #[.int .i64 ((dh G.y).bm:Int), .int .i64 ((dh G.y).zero:Int), .int .i64 ((dh G.y).first:Int), .int .i64 (((dh G.y).first:Int)+((dh G.y).bf:Int)-1), .int .i64 (dh G.y).no] 61 (0,0))->w'.heap[g4]? =some (.cells #[.int .i64 ((dX G.y).bm:Int), .int .i64 ((dX G.y).zero:Int), .int .i64 ((dX G.y).first:Int), .int .i64 (((dX G.y).first:Int)+((dX G.y).bf:Int)-1), .int .i64 (dX G.y).no] 61 (0,0))->Q .normal {tmps:= #[.pointer (some ⟨a,0,none⟩), .pointer (some ⟨w.heap.size,0,none⟩), .pointer (some ⟨w.heap.size+1,0,none⟩),(.pointer (some ⟨g3,0,none⟩)),(.pointer (some ⟨g4,0,none⟩)), .func (.func 22) #[] #[.pointer (some ⟨w.heap.size,0,none⟩), .pointer (some ⟨w.heap.size+1,0,none⟩)], .pointer (some ⟨a,0,none⟩),(fe (dh G.y)), .pointer (some ⟨a,0,none⟩),(fe (dX G.y)),undef,undef,undef,undef,undef,undef,undef,undef,undef,undef],defers:= [{target:= .fn (.func 22) #[.pointer (some ⟨w.heap.size,0,none⟩), .pointer (some ⟨w.heap.size+1,0,none⟩)],args:= #[]}]} w'):
    (Code.region 2 #[{dst:=some 6,op:=Op.load 35 (Operand.tmp 1),type:=35,pos:= "pool.go:21",after:= #[],guard:=none},{dst:=some 7,op:=Op.call {callee:=Callee.value (Operand.func 25),args:= #[Operand.tmp 6],argTypes:= #[35]},type:=61,pos:= "pool.go:21",after:= #[{on:=0,ground:=Ground.data}],guard:=none},{dst:=some 8,op:=Op.load 35 (Operand.tmp 1),type:=35,pos:= "pool.go:21",after:= #[],guard:=none},{dst:=some 9,op:=Op.call {callee:=Callee.value (Operand.func 26),args:= #[Operand.tmp 8],argTypes:= #[35]},type:=61,pos:= "pool.go:21",after:= #[{on:=2,ground:=Ground.data},{on:=1,ground:=Ground.chain}],guard:=none},{dst:=some 3,op:=Op.alloc 61,type:=0,pos:= "pool.go:21",after:= #[],guard:=none},{dst:=some 4,op:=Op.alloc 61,type:=0,pos:= "pool.go:21",after:= #[],guard:=none},{dst:=none,op:=Op.store 61 (Operand.tmp 3) (Operand.tmp 7),type:=0,pos:= "pool.go:21",after:= #[{on:=4,ground:=Ground.data},{on:=1,ground:=Ground.data},{on:=3,ground:=Ground.chain},{on:=0,ground:=Ground.phase},{on:=1,ground:=Ground.phase},{on:=2,ground:=Ground.textOnly Departure.lateStores},{on:=3,ground:=Ground.textOnly Departure.lateStoresUnsure},{on:=4,ground:=Ground.phase},{on:=5,ground:=Ground.phase}],guard:=none},{dst:=none,op:=Op.store 61 (Operand.tmp 4) (Operand.tmp 9),type:=0,pos:= "pool.go:21",after:= #[{on:=5,ground:=Ground.data},{on:=3,ground:=Ground.data},{on:=6,ground:=Ground.chain},{on:=0,ground:=Ground.phase},{on:=1,ground:=Ground.phase},{on:=2,ground:=Ground.phase},{on:=3,ground:=Ground.phase},{on:=4,ground:=Ground.phase},{on:=5,ground:=Ground.phase},{on:=6,ground:=Ground.phase}],guard:=none}] true).wp prog Q {tmps:= #[.pointer (some ⟨a,0,none⟩), .pointer (some ⟨w.heap.size,0,none⟩), .pointer (some ⟨w.heap.size+1,0,none⟩),v3,v4, .func (.func 22) #[] #[.pointer (some ⟨w.heap.size,0,none⟩), .pointer (some ⟨w.heap.size+1,0,none⟩)],v6,v7,v8,v9,undef,undef,undef,undef,undef,undef,undef,undef,undef,undef],defers:= [{target:= .fn (.func 22) #[.pointer (some ⟨w.heap.size,0,none⟩), .pointer (some ⟨w.heap.size+1,0,none⟩)],args:= #[]}]} w1:=by
 refine wZ (by kernel_rfl) (λL A w'=>L.size=8/\JC w0 w F p s cR q l m t n a S G T (λj=>L.getD j false) A w') ?_ ?_ ?_ (Uo (by kernel_rfl))
 .rw [hw];exact⟨by simp,v3,v4,v6,v7,v8,v9,rfl,hC,λh=>by simp at h,λh=>by simp at h,λh=>by simp at h,λh=>by simp at h,λh=>by simp at h,λh=>by simp at h,λh=>by simp at h,λh=>by simp at h,λh=>by simp at h⟩
 .intro i o ho L A w' hJ aS nj qq K hK;obtain⟨hL,hJ⟩:=hJ;have jf:(λj=>(L.setIfInBounds i true).getD j false)=(λj=>if j=i then true else L.getD j false):=funext (λj=>acB aS j);have Md:Shut (∀A w',JC w0 w F p s cR q l m t n a S G T (λj=>if j=i then true else L.getD j false) A w'->K A w'):=λA w' h=>hK.out A w' ⟨by simpa using hL,by rw [jf];exact h⟩;clear hK jf;obtain⟨f,hf⟩:∃f,f=λj=>L.getD j false:=⟨_,rfl⟩;rw [<-hf] at hJ;have hff:∀j,L.getD j false=f j:=λj=>by rw [hf]
  simp only [hff] at Md nj qq;clear hf hff;obtain⟨x3,x4,x6,x7,x8,x9,rfl,hC',f0,f1,f2,f3,f4,f5,f45,f64,f75⟩:=hJ;have HC:=yh hC';have HF:=yh (And.intro f0 (And.intro f1 (And.intro f2 (And.intro f3 (And.intro f4 (And.intro f5 (And.intro f45 (And.intro f64 f75))))))));have hi:i<8:=by rw [<-hL];exact aS
  clear hC' f0 f1 f2 f3 f4 f5 f45 f64 f75 aS hL;obtain rfl|rfl|rfl|rfl|rfl|rfl|rfl|rfl:i=0\/i=1\/i=2\/i=3\/i=4\/i=5\/i=6\/i=7:=by omega
  .replace ho:some ({dst:=some 6,op:=Op.load 35 (Operand.tmp 1),type:=35,pos:= "pool.go:21",after:= #[],guard:=none})=some o:=ho;cases ho;have c0:=aa HC.o.b1 (j:=0) rfl;clear qq;go_simp;exact Md.out _ _ ⟨x3,x4,_,x7,x8,x9,rfl,HC.o,λ_=>rfl,HF.o.2.1,HF.o.2.2.1,HF.o.2.2.2.1,HF.o.2.2.2.2.1,HF.o.2.2.2.2.2.1,HF.o.2.2.2.2.2.2⟩
  .replace ho:some ({dst:=some 7,op:=Op.call {callee:=Callee.value (Operand.func 25),args:= #[Operand.tmp 6],argTypes:= #[35]},type:=61,pos:= "pool.go:21",after:= #[{on:=0,ground:=Ground.data}],guard:=none})=some o:=ho;cases ho;have e0:x6= .pointer (some ⟨a,0,none⟩):=HF.o.1 (qq {on:=0,ground:=Ground.data} (by simp) rfl);subst e0;have h1:=kN HC.o.x HC.o.p;clear qq;go_simp;refine h1.mono ?_;rintro e w2 ⟨rfl,aG⟩;exact Md.out _ _ ⟨x3,x4,_,_,x8,x9,rfl,HC.o.later aG,λ_=>rfl,λ_=>rfl,HF.o.2.2.1,HF.o.2.2.2.1,λh=>(HF.o.2.2.2.2.1 h).later aG,λh=>(HF.o.2.2.2.2.2.1 h).later aG,HF.o.2.2.2.2.2.2⟩
  .replace ho:some ({dst:=some 8,op:=Op.load 35 (Operand.tmp 1),type:=35,pos:= "pool.go:21",after:= #[],guard:=none})=some o:=ho;cases ho;have c0:=aa HC.o.b1 (j:=0) rfl;clear qq;go_simp;exact Md.out _ _ ⟨x3,x4,x6,x7,_,x9,rfl,HC.o,HF.o.1,HF.o.2.1,λ_=>rfl,HF.o.2.2.2.1,HF.o.2.2.2.2.1,HF.o.2.2.2.2.2.1,HF.o.2.2.2.2.2.2⟩
  .replace ho:some ({dst:=some 9,op:=Op.call {callee:=Callee.value (Operand.func 26),args:= #[Operand.tmp 8],argTypes:= #[35]},type:=61,pos:= "pool.go:21",after:= #[{on:=2,ground:=Ground.data},{on:=1,ground:=Ground.chain}],guard:=none})=some o:=ho;cases ho;have e0:x8= .pointer (some ⟨a,0,none⟩):=HF.o.2.2.1 (qq {on:=2,ground:=Ground.data} (by simp) rfl);subst e0;have h1:=oR HC.o.x HC.o.p;clear qq;go_simp;refine h1.mono ?_;rintro e w2 ⟨rfl,aG⟩;exact Md.out _ _ ⟨x3,x4,x6,x7,_,_,rfl,HC.o.later aG,HF.o.1,HF.o.2.1,λ_=>rfl,λ_=>rfl,λh=>(HF.o.2.2.2.2.1 h).later aG,λh=>(HF.o.2.2.2.2.2.1 h).later aG,HF.o.2.2.2.2.2.2⟩
  .replace ho:some ({dst:=some 3,op:=Op.alloc 61,type:=0,pos:= "pool.go:21",after:= #[],guard:=none})=some o:=ho;cases ho;clear qq;have aG:=an w' (.cells #[.int .i64 0, .int .i64 0, .int .i64 0, .int .i64 0, .int .i64 0] 61);have hn:=heap_alloc_new w' (.cells #[.int .i64 0, .int .i64 0, .int .i64 0, .int .i64 0, .int .i64 0] 61);have HN:=yh (And.intro aG hn);clear aG hn;go_simp;refine Md.out _ _ ⟨_,x4,x6,x7,x8,x9,rfl,HC.o.later HN.o.1,HF.o.1,HF.o.2.1,HF.o.2.2.1,HF.o.2.2.2.1,λ_=>⟨w'.heap.size,rfl,HC.o.lo.size,?_⟩,λh=>(HF.o.2.2.2.2.2.1 h).later HN.o.1,λ_ h=>?_,λ_=>rfl,HF.o.2.2.2.2.2.2.2.2⟩
   .have h6:¬f 6=true:=λh=>by have:=HF.o.2.2.2.2.2.2.2.1 h;rw [nj] at this;cases this
    rw [if_neg (show¬((λj=>if j=4 then true else f j) 6=true) from h6)];exact HN.o.2
   .obtain⟨g',e,_,h2⟩:=HF.o.2.2.2.2.2.1 h;intro e';rw [e] at e';have h9:w'.heap.size=g':=(by injection e' with e1;injection e1 with e2;injection e2);have:=af h2;omega
  .replace ho:some ({dst:=some 4,op:=Op.alloc 61,type:=0,pos:= "pool.go:21",after:= #[],guard:=none})=some o:=ho;cases ho;clear qq;have aG:=an w' (.cells #[.int .i64 0, .int .i64 0, .int .i64 0, .int .i64 0, .int .i64 0] 61);have hn:=heap_alloc_new w' (.cells #[.int .i64 0, .int .i64 0, .int .i64 0, .int .i64 0, .int .i64 0] 61);have HN:=yh (And.intro aG hn);clear aG hn;go_simp;refine Md.out _ _ ⟨x3,_,x6,x7,x8,x9,rfl,HC.o.later HN.o.1,HF.o.1,HF.o.2.1,HF.o.2.2.1,HF.o.2.2.2.1,λh=>(HF.o.2.2.2.2.1 h).later HN.o.1,λ_=>⟨w'.heap.size,rfl,HC.o.lo.size,?_⟩,λh _=>?_,HF.o.2.2.2.2.2.2.2.1,λ_=>rfl⟩
   .have h6:¬f 7=true:=λh=>by have:=HF.o.2.2.2.2.2.2.2.2 h;rw [nj] at this;cases this
    rw [if_neg (show¬((λj=>if j=5 then true else f j) 7=true) from h6)];exact HN.o.2
   .obtain⟨g',e,_,h2⟩:=HF.o.2.2.2.2.1 h;intro e';rw [e] at e';have h9:g'=w'.heap.size:=(by injection e' with e1;injection e1 with e2;injection e2);have:=af h2;omega
  .replace ho:some ({dst:=none,op:=Op.store 61 (Operand.tmp 3) (Operand.tmp 7),type:=0,pos:= "pool.go:21",after:= #[{on:=4,ground:=Ground.data},{on:=1,ground:=Ground.data},{on:=3,ground:=Ground.chain},{on:=0,ground:=Ground.phase},{on:=1,ground:=Ground.phase},{on:=2,ground:=Ground.textOnly Departure.lateStores},{on:=3,ground:=Ground.textOnly Departure.lateStoresUnsure},{on:=4,ground:=Ground.phase},{on:=5,ground:=Ground.phase}],guard:=none})=some o:=ho;cases ho;have d4:f 4=true:=qq {on:=4,ground:=Ground.data} (by simp) rfl;have d1:f 1=true:=qq {on:=1,ground:=Ground.data} (by simp) rfl;have d5:f 5=true:=qq {on:=5,ground:=Ground.phase} (by simp) rfl;obtain⟨g,e,hg,bw⟩:=HF.o.2.2.2.2.1 d4;have h6:¬f 6=true:=λh=>by rw [nj] at h;cases h
   rw [if_neg h6] at bw;have e7:=HF.o.2.1 d1;have hn:x4≠x3:=λh=>HF.o.2.2.2.2.2.2.1 d4 d5 h.symm;have HE:=yh e;subst e e7;rw [if_pos (by rfl)];refine wp_store_mid _ _ _ rfl g 0 #[.int .i64 ((dh G.y).bm:Int), .int .i64 ((dh G.y).zero:Int), .int .i64 ((dh G.y).first:Int), .int .i64 (((dh G.y).first:Int)+((dh G.y).bf:Int)-1), .int .i64 (dh G.y).no] rfl rfl (aZ bw (n:=5) rfl) oQ (by simp [Value.oneCell']) ?_;have hk:ad (λk=>k=g) w' (w'.setCells g 0 (Array.toList #[.int .i64 ((dh G.y).bm:Int), .int .i64 ((dh G.y).zero:Int), .int .i64 ((dh G.y).first:Int), .int .i64 (((dh G.y).first:Int)+((dh G.y).bf:Int)-1), .int .i64 (dh G.y).no])):=ad.setCells (F:=λk=>k=g) rfl _ 0 _;have hs:=Ib (a':= .int .i64 ((dh G.y).bm:Int)) (b':= .int .i64 ((dh G.y).zero:Int)) (c':= .int .i64 ((dh G.y).first:Int)) (d':= .int .i64 (((dh G.y).first:Int)+((dh G.y).bf:Int)-1)) (e':= .int .i64 (dh G.y).no) bw;exact Md.out _ _ ⟨_,x4,x6,_,x8,x9,rfl,HC.o.side hg hk,HF.o.1,λ_=>rfl,HF.o.2.2.1,HF.o.2.2.2.1,λ_=>⟨g,rfl,hg,hs⟩,λh=>(HF.o.2.2.2.2.2.1 h).tM rfl hn hk,HF.o.2.2.2.2.2.2.1,λ_=>d4,HF.o.2.2.2.2.2.2.2.2⟩
  .replace ho:some ({dst:=none,op:=Op.store 61 (Operand.tmp 4) (Operand.tmp 9),type:=0,pos:= "pool.go:21",after:= #[{on:=5,ground:=Ground.data},{on:=3,ground:=Ground.data},{on:=6,ground:=Ground.chain},{on:=0,ground:=Ground.phase},{on:=1,ground:=Ground.phase},{on:=2,ground:=Ground.phase},{on:=3,ground:=Ground.phase},{on:=4,ground:=Ground.phase},{on:=5,ground:=Ground.phase},{on:=6,ground:=Ground.phase}],guard:=none})=some o:=ho;cases ho;have d4:f 5=true:=qq {on:=5,ground:=Ground.data} (by simp) rfl;have d1:f 3=true:=qq {on:=3,ground:=Ground.data} (by simp) rfl;have d5:f 4=true:=qq {on:=4,ground:=Ground.phase} (by simp) rfl;obtain⟨g,e,hg,bw⟩:=HF.o.2.2.2.2.2.1 d4;have h6:¬f 7=true:=λh=>by rw [nj] at h;cases h
   rw [if_neg h6] at bw;have e7:=HF.o.2.2.2.1 d1;have hn:x3≠x4:=HF.o.2.2.2.2.2.2.1 d5 d4;have HE:=yh e;subst e e7;rw [if_pos (by rfl)];refine wp_store_mid _ _ _ rfl g 0 #[.int .i64 ((dX G.y).bm:Int), .int .i64 ((dX G.y).zero:Int), .int .i64 ((dX G.y).first:Int), .int .i64 (((dX G.y).first:Int)+((dX G.y).bf:Int)-1), .int .i64 (dX G.y).no] rfl rfl (aZ bw (n:=5) rfl) oQ (by simp [Value.oneCell']) ?_;have hk:ad (λk=>k=g) w' (w'.setCells g 0 (Array.toList #[.int .i64 ((dX G.y).bm:Int), .int .i64 ((dX G.y).zero:Int), .int .i64 ((dX G.y).first:Int), .int .i64 (((dX G.y).first:Int)+((dX G.y).bf:Int)-1), .int .i64 (dX G.y).no])):=ad.setCells (F:=λk=>k=g) rfl _ 0 _;have hs:=Ib (a':= .int .i64 ((dX G.y).bm:Int)) (b':= .int .i64 ((dX G.y).zero:Int)) (c':= .int .i64 ((dX G.y).first:Int)) (d':= .int .i64 (((dX G.y).first:Int)+((dX G.y).bf:Int)-1)) (e':= .int .i64 (dX G.y).no) bw;exact Md.out _ _ ⟨x3,_,x6,x7,x8,_,rfl,HC.o.side hg hk,HF.o.1,HF.o.2.1,HF.o.2.2.1,λ_=>rfl,λh=>(HF.o.2.2.2.2.1 h).tM rfl hn hk,λ_=>⟨g,rfl,hg,hs⟩,HF.o.2.2.2.2.2.2.1,HF.o.2.2.2.2.2.2.2.1,λ_=>d4⟩
 .rintro L A w' ⟨hL,x3,x4,x6,x7,x8,x9,rfl,hC',f0,f1,f2,f3,f4,f5,f45,_,_⟩ bC;have al:∀j,j<8->L.getD j false=true:=λj hj=>bC j (by omega);obtain⟨g3,rfl,xA,bH⟩:=f4 (al 4 (by omega));obtain⟨g4,rfl,A7,eK⟩:=f5 (al 5 (by omega));have h34:g3≠g4:=λe=>f45 (al 4 (by omega)) (al 5 (by omega)) (by rw [e]);rw [if_pos (al 6 (by omega))] at bH;rw [if_pos (al 7 (by omega))] at eK;rw [f0 (al 0 (by omega)),f1 (al 1 (by omega)),f2 (al 2 (by omega)),f3 (al 3 (by omega))];exact hQ g3 g4 w' hC' xA A7 h34 bH eK
end
end
section
section
variable {w:World} {F:Nat->Prop} {p s cR q l m t n a:Nat} {S:DS} {G:SG} {T:TG}
def TG.mV (T:TG) (G:SG) (S:DS):Int×TG:=
 if (T.put G S (dh G.y).bm (nI (dh G.y).first)).1≠0 then ((T.put G S (dh G.y).bm (nI (dh G.y).first)).1,((T.put G S (dh G.y).bm (nI (dh G.y).first)).2.aT G S (T.put G S (dh G.y).bm (nI (dh G.y).first)).1).2) else
 if ((T.put G S (dh G.y).bm (nI (dh G.y).first)).2.put G S (dX G.y).bm (nI 0)).1≠0 then (((T.put G S (dh G.y).bm (nI (dh G.y).first)).2.put G S (dX G.y).bm (nI 0)).1,(((T.put G S (dh G.y).bm (nI (dh G.y).first)).2.put G S (dX G.y).bm (nI 0)).2.aT G S ((T.put G S (dh G.y).bm (nI (dh G.y).first)).2.put G S (dX G.y).bm (nI 0)).1).2) else
   (0,((T.put G S (dh G.y).bm (nI (dh G.y).first)).2.put G S (dX G.y).bm (nI 0)).2)
theorem sP (h:TX w F p s cR q l m t n S G T) (hp:ar w F a t n):
  Calls prog 11 #[.pointer (some ⟨a,0,none⟩)] w λe w'=>e= .returned (.int .i64 (T.mV G S).1)/\TX w' F p s (cR+2) q l m t n S G (T.mV G S).2/\ad (cq F t n) w w':=by
 obtain⟨aH,gm,dU,jx⟩:=vD w (.cells #[.pointer (some ⟨a,0,none⟩)] 35) (.cells #[.int .i64 0] 39);obtain⟨w1,bd⟩:∃w1,w1=(w.alloc (.cells #[.pointer (some ⟨a,0,none⟩)] 35)).alloc (.cells #[.int .i64 0] 39):=⟨_,rfl⟩;rw [<-bd] at aH gm dU jx;have aS:=h.lt;have gh:=hp.lt;have hCW:CW w1.drew w1.drew w.heap.size F p s cR q l m t n a S G T:=⟨h.later aH,hp.later aH,gm,dU,Below.refl _ _,(h.later aH).low,(hp.later aH).lt,by omega⟩;have n1:¬cq F t n w.heap.size:=λhf=>by have:=aS _ hf;omega
 have n2:¬cq F t n (w.heap.size+1):=λhf=>by have:=aS _ hf;omega
 have HB:=yh aH;have rn:=yh h.low;have J4:w.heap.size+1≠t:=λe=>n2 (.inr (.inl e));have hf4:(dh G.y).first<=4096:=by have:=h.yk.bl;have:=h.yk.dy;show G.y.data<=4096;omega
 obtain⟨Z,hZ⟩:∃Z,Z=T.mV G S:=⟨_,rfl⟩;rw [<-hZ];unfold TG.mV at hZ;obtain⟨k1,bo⟩:∃k1,k1=dh G.y:=⟨_,rfl⟩;obtain⟨k2,aK⟩:∃k2,k2=dX G.y:=⟨_,rfl⟩;rw [<-bo] at hZ hf4;rw [<-aK] at hZ;have HZ:=yh hZ;have HC:=yh hCW;have qV:=yh bo;have k8:=yh aK;clear h hp aH gm dU hZ hCW bo aK
 go_enter_defers func11,ntmps11
 go_wp2_with fail;rw [<-bd];clear bd;refine Nt (w0:=w1.drew) rfl HC.o ?_;intro g3 g4 w2 Qq xA A7 h34 bH eK;rw [<-qV.o] at bH;rw [<-k8.o] at eK;rw [<-qV.o,<-k8.o];have R6:=yh Qq;have nB:=yh (And.intro bH eK);clear bH eK Qq;have eE:=R6.o.lo.size;go_wp2_with fail;have lQ:Below w2.heap.size w2 w2.drew:=ah (Below.refl _ _);have hCd:=R6.o.later lQ;obtain⟨e0,e1,e2,e3,e4⟩:=gR (w:=w2.drew) nB.o.1;have c0:w2.drew.cell? ⟨w.heap.size,0,none⟩=some (.pointer (some ⟨a,0,none⟩)):=aa hCd.b1 (j:=0) rfl;have VH:=Hu w2.drew k1.first hf4;have HCd:=yh hCd;have acD:Yh (ad (cq F t n) w w2.drew):=ad.ag _ (HB.o.trans (hCd.lo.mono (by omega)));clear hCd lQ;obtain⟨L1,hL1⟩:∃L1:Int,L1=(k1.first:Int)+(k1.bf:Int)-1:=⟨_,rfl⟩;rw [<-hL1] at e3;have O7:=yh hL1;clear hL1;obtain⟨R,hR⟩:∃R,R=T.put G S k1.bm (nI k1.first):=⟨_,rfl⟩;have HR:=yh hR;clear hR;refine jn (Ia [{target:= .fn (.func 22) #[.pointer (some ⟨w.heap.size,0,none⟩), .pointer (some ⟨w.heap.size+1,0,none⟩)],args:= #[]}] [(2, .pointer (some ⟨w.heap.size+1,0,none⟩))] (λc w9=>∃x,c=iD x/\Z=(x,(R.2.aT G S x).2)/\TX w9 F p s (cR+1) q l m t n S G R.2/\ad (cq F t n) w w9/\ar w9 F a t n/\w9.heap[w.heap.size]? =some (.cells #[.pointer (some ⟨a,0,none⟩)] 35 (0,0))/\w9.heap[w.heap.size+1]? =some (.cells #[.int .i64 0] 39 (0,0)))) ?_ ?_
 .rintro c A w9 ⟨hd,kD,x,rfl,hZ,gy,aR,nL,g1,g2⟩;have s2:=kD (2, .pointer (some ⟨w.heap.size+1,0,none⟩)) (by simp)
  dsimp only at s2
  rw [Array.getD_eq_getD_getElem?] at s2;go_wp2;show Leaves prog _ A.tmps _ A.defers _ w9;rw [hd];refine leaves_cons (f:=22) (args:= #[.pointer (some ⟨w.heap.size,0,none⟩), .pointer (some ⟨w.heap.size+1,0,none⟩)]) (by simp) (by simp [go_sem]) ?_;refine(ro gy nL g1 g2 J4 x).mono ?_;rintro e u' w4 ⟨rfl,rfl,w5,rW,cB,gc,jP⟩;have q2:w4.cell? ⟨w.heap.size+1,0,none⟩=some (.int .i64 x):=aa gc (j:=0) rfl;simp [Leaves,settle,results,results11,go_sem,s2,q2,hZ];exact⟨(rW.side rn.o jP (λk e=>by omega)).le (by omega),(aR.trans cB (λ_ e=> .inl (.inr (.inl e)))).trans jP (λk e=> .inr (by omega))⟩
 refine wp_region_held_drew (S:=(λw'=>w'.cell? ⟨w.heap.size,0,none⟩=some (.pointer (some ⟨a,0,none⟩))/\w'.cell? ⟨g3,0,none⟩=some (.int .i64 (k1.bm:Int))/\w'.cell? ⟨g3,1,none⟩=some (.int .i64 (k1.zero:Int))/\w'.cell? ⟨g3,2,none⟩=some (.int .i64 (k1.first:Int))/\w'.cell? ⟨g3,3,none⟩=some (.int .i64 L1)/\w'.cell? ⟨g3,4,none⟩=some (.int .i64 k1.no))) (by kernel_rfl) (⟨c0,e0,e1,e2,e3,e4⟩) (λaC=>?_);refine wpAnyH_take (i:=0) (oi:={dst:=some 10,op:=Op.load 35 (Operand.tmp 1),type:=35,pos:= "pool.go:22",after:= #[],guard:=none}) (v:= .pointer (some ⟨a,0,none⟩)) rfl (by kernel_rfl) (by kernel_rfl) (by kernel_rfl) (dZ (d:=10) (by simp)) (Or.inl ⟨by rfl,?_⟩) (by assumption) ?_
 .intro w aw
  (try dsimp only at aw)
  go_simp
 try simp only [Act.put,List.setIfInBounds_toArray,List.set_cons_zero,List.set_cons_succ]
 refine wpAnyH_take (i:=1) (oi:={dst:=some 11,op:=Op.load 61 (Operand.tmp 3),type:=61,pos:= "pool.go:22",after:= #[],guard:=none}) (v:= .agg #[.int .i64 (k1.bm:Int), .int .i64 (k1.zero:Int), .int .i64 (k1.first:Int), .int .i64 L1, .int .i64 k1.no]) rfl (by kernel_rfl) (by kernel_rfl) (by kernel_rfl) (dZ (d:=11) (by simp)) (Or.inl ⟨by rfl,?_⟩) (by assumption) ?_
 .intro w aw
  (try dsimp only at aw)
  go_simp
 try simp only [Act.put,List.setIfInBounds_toArray,List.set_cons_zero,List.set_cons_succ]
 refine wpAnyH_take (i:=2) (oi:={dst:=some 12,op:=Op.fieldAddr 61 (Operand.tmp 3) 2,type:=0,pos:= "pool.go:22",after:= #[],guard:=none}) (v:= .pointer (some ⟨g3,2,none⟩)) rfl (by kernel_rfl) (by kernel_rfl) (by kernel_rfl) (dZ (d:=12) (by simp)) (Or.inl ⟨by rfl,?_⟩) (by assumption) ?_
 .intro w aw
  (try dsimp only at aw)
  go_simp
 try simp only [Act.put,List.setIfInBounds_toArray,List.set_cons_zero,List.set_cons_succ]
 refine wpAnyH_take (i:=3) (oi:={dst:=some 13,op:=Op.load 3 (Operand.tmp 12),type:=3,pos:= "pool.go:22",after:= #[{on:=2,ground:=Ground.data}],guard:=none}) (v:= .int .i64 (k1.first:Int)) rfl (by kernel_rfl) (by kernel_rfl) (by kernel_rfl) (dZ (d:=13) (by simp)) (Or.inl ⟨by rfl,?_⟩) (by assumption) ?_
 .intro w aw
  (try dsimp only at aw)
  go_simp
 try simp only [Act.put,List.setIfInBounds_toArray,List.set_cons_zero,List.set_cons_succ]
 refine wpAnyH_ready (rs:= [4]) (by kernel_rfl) (by simp) ?_;refine AllReadyH.cons (o:={dst:=some 14,op:=Op.call {callee:=Callee.value (Operand.func 28),args:= #[Operand.tmp 13],argTypes:= #[3]},type:=64,pos:= "pool.go:22",after:= #[{on:=3,ground:=Ground.data}],guard:=none}) rfl (λK hK=>?_) AllReadyH.nil;go_simp;refine VH.mono ?_;rintro e w3 ⟨g5,rfl,Cb,gc,lW⟩;have om:=cell_later lW c0;have XP:=cell_later lW e0;have XQ:=cell_later lW e1;have XR:=cell_later lW e2;have XS:=cell_later lW e3;have Up:=cell_later lW e4;refine hK.out _ _ ?_ (λaC=>?_)
 .exact⟨om,XP,XQ,XR,XS,Up⟩
 clear hK K;try simp only [Act.put,List.setIfInBounds_toArray,List.set_cons_zero,List.set_cons_succ]
 refine wpAnyH_ready (rs:= [5]) (by kernel_rfl) (by simp) ?_;refine AllReadyH.cons (o:={dst:=some 15,op:=Op.call {callee:=Callee.value (Operand.func 27),args:= #[Operand.tmp 10,Operand.tmp 11,Operand.tmp 14],argTypes:= #[35,61,64]},type:=0,pos:= "pool.go:22",after:= #[{on:=0,ground:=Ground.data},{on:=1,ground:=Ground.data},{on:=4,ground:=Ground.data},{on:=4,ground:=Ground.chain}],guard:=none}) rfl (λK hK=>?_) AllReadyH.nil;go_simp;have bu:fe k1= .agg #[.int .i64 (k1.bm:Int), .int .i64 (k1.zero:Int), .int .i64 (k1.first:Int), .int .i64 L1, .int .i64 k1.no]:=by rw [O7.o]
 have K5:=rm (c:=512) (HCd.o.x.later lW) (HCd.o.p.later lW) k1 gc (oP _) (kw _);rw [bu,<-HR.o] at K5;refine K5.mono ?_;rintro e w4 ⟨iF,Ns,dF⟩;have Fx:=acD.o.trans ((ad.ag (cq F t n) lW).trans dF (λ_ h=> .inl h)) (λ_ h=> .inl h);have VI:=HCd.o.later lW;have g1:=(dF.block _ (af VI.b1) n1).trans VI.b1;have g2:=(dF.block _ (af VI.b2) n2).trans VI.b2;have z8:=VI.p.ak dF;have ng:∀g,w1.drew.heap.size<=g->¬cq F t n g:=λg hg hf=>by have:=aS _ hf;omega
 have Uq:=(lW.block _ (af (w:=w2.drew) nB.o.1)).trans (show w2.drew.heap[g3]? =_ from nB.o.1);have Ur:=(lW.block _ (af (w:=w2.drew) nB.o.2)).trans (show w2.drew.heap[g4]? =_ from nB.o.2);have XT:=(dF.block _ (af Uq) (ng g3 xA)).trans Uq;have XU:=(dF.block _ (af Ur) (ng g4 A7)).trans Ur;have HQ:Yh (TX w4 F p s (cR+1) q l m t n S G R.2/\ad (cq F t n) w w4/\ar w4 F a t n):=⟨Ns,Fx,z8⟩;have mh:=yh (And.intro g1 g2);have mB:=yh XU;have c9:w4.cell? ⟨w.heap.size,0,none⟩=some (.pointer (some ⟨a,0,none⟩)):=aa g1 (j:=0) rfl;obtain⟨i0,i1,i2,i3,i4⟩:=gR XT;rw [<-O7.o] at i3;clear VH lW c0 e0 e1 e2 e3 e4 om XP XQ XR XS Up K5 bu Ns dF Fx VI g1 g2 z8 Uq Ur XT XU gc ng;unfold CK at iF;have hZ:=HZ.o;rw [<-HR.o] at hZ;by_cases cI:R.1=0
 .rw [if_pos cI] at iF;subst iF;rw [if_neg (λh=>h cI)] at hZ;have HZ2:=yh hZ;clear hZ cI;refine hK.out _ _ ?_ (λaC=>?_)
  .exact⟨c9,i0,i1,i2,i3,i4⟩
  clear hK K;try simp only [Act.put,List.setIfInBounds_toArray,List.set_cons_zero,List.set_cons_succ]
  refine wpAnyH_done (by kernel_rfl) ?_ _
  dsimp only [wY]
  clear aC c9 i0 i1 i2 i3 i4;go_wp2_with fail;have lQ:Below w4.heap.size w4 w4.drew:=ah (Below.refl _ _);obtain⟨e0,e1,e2,e3,e4⟩:=gR (w:=w4.drew) mB.o;obtain⟨L2,hL2⟩:∃L2:Int,L2=(k2.first:Int)+(k2.bf:Int)-1:=⟨_,rfl⟩;rw [<-hL2] at e3;have RT:=yh hL2;clear hL2;have c0:w4.drew.cell? ⟨w.heap.size,0,none⟩=some (.pointer (some ⟨a,0,none⟩)):=aa (w:=w4.drew) mh.o.1 (j:=0) rfl;have VH:=Hu w4.drew 0 (by omega);rw [show ((0:Nat):Int)=0 from rfl] at VH;obtain⟨R2,Vq⟩:∃R2,R2=R.2.put G S k2.bm (nI 0):=⟨_,rfl⟩;have Jk:=yh Vq;clear Vq;refine jn (Ia [{target:= .fn (.func 22) #[.pointer (some ⟨w.heap.size,0,none⟩), .pointer (some ⟨w.heap.size+1,0,none⟩)],args:= #[]}] [(2, .pointer (some ⟨w.heap.size+1,0,none⟩))] (λc w9=>∃x,c=iD x/\Z=(x,(R2.2.aT G S x).2)/\TX w9 F p s (cR+2) q l m t n S G R2.2/\ad (cq F t n) w w9/\ar w9 F a t n/\w9.heap[w.heap.size]? =some (.cells #[.pointer (some ⟨a,0,none⟩)] 35 (0,0))/\w9.heap[w.heap.size+1]? =some (.cells #[.int .i64 0] 39 (0,0)))) ?_ ?_
  .rintro c A w9 ⟨hd,kD,x,rfl,hZ,gy,aR,nL,g1,g2⟩;have s2:=kD (2, .pointer (some ⟨w.heap.size+1,0,none⟩)) (by simp)
   dsimp only at s2
   rw [Array.getD_eq_getD_getElem?] at s2;go_wp2;show Leaves prog _ A.tmps _ A.defers _ w9;rw [hd];refine leaves_cons (f:=22) (args:= #[.pointer (some ⟨w.heap.size,0,none⟩), .pointer (some ⟨w.heap.size+1,0,none⟩)]) (by simp) (by simp [go_sem]) ?_;refine(ro gy nL g1 g2 J4 x).mono ?_;rintro e u' w4 ⟨rfl,rfl,w5,rW,cB,gc,jP⟩;have q2:w4.cell? ⟨w.heap.size+1,0,none⟩=some (.int .i64 x):=aa gc (j:=0) rfl;simp [Leaves,settle,results,results11,go_sem,s2,q2,hZ];exact⟨(rW.side rn.o jP (λk e=>by omega)).le (by omega),(aR.trans cB (λ_ e=> .inl (.inr (.inl e)))).trans jP (λk e=> .inr (by omega))⟩
  refine wp_region_held_drew (S:=(λw'=>w'.cell? ⟨w.heap.size,0,none⟩=some (.pointer (some ⟨a,0,none⟩))/\w'.cell? ⟨g4,0,none⟩=some (.int .i64 (k2.bm:Int))/\w'.cell? ⟨g4,1,none⟩=some (.int .i64 (k2.zero:Int))/\w'.cell? ⟨g4,2,none⟩=some (.int .i64 (k2.first:Int))/\w'.cell? ⟨g4,3,none⟩=some (.int .i64 L2)/\w'.cell? ⟨g4,4,none⟩=some (.int .i64 k2.no))) (by kernel_rfl) (⟨c0,e0,e1,e2,e3,e4⟩) (λaC=>?_);refine wpAnyH_take (i:=0) (oi:={dst:=some 16,op:=Op.load 35 (Operand.tmp 1),type:=35,pos:= "pool.go:23",after:= #[],guard:=none}) (v:= .pointer (some ⟨a,0,none⟩)) rfl (by kernel_rfl) (by kernel_rfl) (by kernel_rfl) (dZ (d:=16) (by simp)) (Or.inl ⟨by rfl,?_⟩) (by assumption) ?_
  .intro w aw
   (try dsimp only at aw)
   go_simp
  try simp only [Act.put,List.setIfInBounds_toArray,List.set_cons_zero,List.set_cons_succ]
  refine wpAnyH_take (i:=1) (oi:={dst:=some 17,op:=Op.load 61 (Operand.tmp 4),type:=61,pos:= "pool.go:23",after:= #[],guard:=none}) (v:= .agg #[.int .i64 (k2.bm:Int), .int .i64 (k2.zero:Int), .int .i64 (k2.first:Int), .int .i64 L2, .int .i64 k2.no]) rfl (by kernel_rfl) (by kernel_rfl) (by kernel_rfl) (dZ (d:=17) (by simp)) (Or.inl ⟨by rfl,?_⟩) (by assumption) ?_
  .intro w aw
   (try dsimp only at aw)
   go_simp
  try simp only [Act.put,List.setIfInBounds_toArray,List.set_cons_zero,List.set_cons_succ]
  refine wpAnyH_ready (rs:= [2]) (by kernel_rfl) (by simp) ?_;refine AllReadyH.cons (o:={dst:=some 18,op:=Op.call {callee:=Callee.value (Operand.func 28),args:= #[Operand.const (Value.int IntKind.i64 0)],argTypes:= #[3]},type:=64,pos:= "pool.go:23",after:= #[],guard:=none}) rfl (λK hK=>?_) AllReadyH.nil;go_simp;refine VH.mono ?_;rintro e w5 ⟨g5,rfl,Cb,gc,lW⟩;have om:=cell_later lW c0;have XP:=cell_later lW e0;have XQ:=cell_later lW e1;have XR:=cell_later lW e2;have XS:=cell_later lW e3;have Up:=cell_later lW e4;refine hK.out _ _ ?_ (λaC=>?_)
  .exact⟨om,XP,XQ,XR,XS,Up⟩
  clear hK K;try simp only [Act.put,List.setIfInBounds_toArray,List.set_cons_zero,List.set_cons_succ]
  refine wpAnyH_ready (rs:= [3]) (by kernel_rfl) (by simp) ?_;refine AllReadyH.cons (o:={dst:=some 19,op:=Op.call {callee:=Callee.value (Operand.func 27),args:= #[Operand.tmp 16,Operand.tmp 17,Operand.tmp 18],argTypes:= #[35,61,64]},type:=0,pos:= "pool.go:23",after:= #[{on:=0,ground:=Ground.data},{on:=1,ground:=Ground.data},{on:=2,ground:=Ground.data},{on:=2,ground:=Ground.chain}],guard:=none}) rfl (λK hK=>?_) AllReadyH.nil;go_simp;have bu:fe k2= .agg #[.int .i64 (k2.bm:Int), .int .i64 (k2.zero:Int), .int .i64 (k2.first:Int), .int .i64 L2, .int .i64 k2.no]:=by rw [RT.o]
  have k9:=lQ.trans (lW.mono (by have:=lQ.size;omega));have K5:=rm (c:=512) (HQ.o.1.later k9) (HQ.o.2.2.later k9) k2 gc (oP _) (kw _);rw [bu,<-Jk.o] at K5;refine K5.mono ?_;rintro e w6 ⟨iF,Sg,jP⟩;have C4:=HQ.o.2.1.trans ((ad.ag (cq F t n) k9).trans jP (λ_ h=> .inl h)) (λ_ h=> .inl h);have Us:=(k9.block _ (af mh.o.1)).trans mh.o.1;have Ut:=(k9.block _ (af mh.o.2)).trans mh.o.2;have g1:=(jP.block _ (af Us) n1).trans Us;have g2:=(jP.block _ (af Ut) n2).trans Ut;have My:=(HQ.o.2.2.later k9).ak jP;have ng:¬cq F t n g4:=λhf=>by have:=aS _ hf;omega
  have XV:=(jP.block _ (Nat.lt_of_lt_of_le (af mB.o) k9.size) ng).trans ((k9.block _ (af mB.o)).trans mB.o);have Sh:Yh (TX w6 F p s (cR+2) q l m t n S G R2.2/\ad (cq F t n) w w6/\ar w6 F a t n):=⟨Sg,C4,My⟩;have XW:=yh (And.intro g1 g2);have c9:w6.cell? ⟨w.heap.size,0,none⟩=some (.pointer (some ⟨a,0,none⟩)):=aa g1 (j:=0) rfl;obtain⟨i0,i1,i2,i3,i4⟩:=gR XV;rw [<-RT.o] at i3;have d0:w6.cell? ⟨w.heap.size+1,0,none⟩=some (.int .i64 0):=aa g2 (j:=0) rfl;have f0:=ae g2 0;clear VH lW c0 e0 e1 e2 e3 e4 om XP XQ XR XS Up K5 bu Sg jP C4 Us Ut g1 g2 My XV gc ng k9;unfold CK at iF;have hZ:=HZ2.o;rw [<-Jk.o] at hZ;by_cases eB:R2.1=0
  .rw [if_pos eB] at iF;subst iF;rw [if_neg (λh=>h eB)] at hZ;have VB:=yh hZ;clear hZ eB;refine hK.out _ _ ?_ (λaC=>?_)
   .exact⟨c9,i0,i1,i2,i3,i4⟩
   clear hK K;try simp only [Act.put,List.setIfInBounds_toArray,List.set_cons_zero,List.set_cons_succ]
   refine wpAnyH_done (by kernel_rfl) ?_ _
   dsimp only [wY]
   clear aC c9 i0 i1 i2 i3 i4;have pe:=iK (w:=w6) (w':=w6) (x:=0) (.int .i64 0) rfl (ad.refl _ _) XW.o.2;have nJ:=yh pe;clear pe;go_wp2;obtain⟨w7,A6⟩:∃w7,w7=w6.setCell ⟨w.heap.size+1,0,none⟩ (.int .i64 0):=⟨_,rfl⟩;rw [<-A6] at nJ;rw [<-A6];clear A6 d0 f0;refine leaves_cons (f:=22) (args:= #[.pointer (some ⟨w.heap.size,0,none⟩), .pointer (some ⟨w.heap.size+1,0,none⟩)]) (by simp) (by simp [go_sem]) ?_;have Jq:ar w7 F a t n:=⟨(nJ.o.2.block a Sh.o.2.2.lt (by omega)).trans Sh.o.2.2.b,Sh.o.2.2.nf⟩;have g7:=(nJ.o.2.block _ (af XW.o.1) (by omega)).trans XW.o.1;refine(CV Jq g7 nJ.o.1).mono ?_;rintro e u' w8 ⟨rfl,rfl,yD,lN⟩;have q2:w8.cell? ⟨w.heap.size+1,0,none⟩=some (.int .i64 0):=aa yD (j:=0) rfl;simp [Leaves,settle,results,results11,go_sem,q2,VB.o];exact⟨(Sh.o.1.side rn.o nJ.o.2 (λk e=>by omega)).side rn.o lN (λk e=>by omega),(Sh.o.2.1.trans nJ.o.2 (λk e=> .inr (by omega))).trans lN (λk e=> .inr (by omega))⟩
  .rw [if_neg eB] at iF;rw [if_pos eB] at hZ;subst iF;exact⟨rfl,by simp,_,rfl,hZ,Sh.o.1,Sh.o.2.1,Sh.o.2.2,XW.o.1,XW.o.2⟩
 .rw [if_neg cI] at iF;rw [if_pos cI] at hZ;subst iF;exact⟨rfl,by simp,_,rfl,hZ,HQ.o.1,HQ.o.2.1,HQ.o.2.2,mh.o.1,mh.o.2⟩
end
end
def Az (h:Bytes xs):JP (strOfNums xs)=xs:=by
 unfold JP strOfNums;simp only [List.map_map];apply List.ext_getElem
 .simp
 .intro i b a;have:=h xs[i] (List.getElem_mem a);simp;omega
def rq (p b o c k m:Nat) (l:List Int) (w:World) (h:Rd w p b o c k l) (a:k+m<=l.length) (rU:k<c):
  Calls prog 162 #[pQ p,iV (m:Int)] w λe w'=>e= .returned (.string (strOfNums (part l k m)))/\Rd w' p b o c (k+m) l/\ad (λj=>j=p) w w':=by
 go_in;go_wp2_with fail;refine(ul p b o l.length c k m w h.rd a h.cap rU h.small h.JW).mono ?_;rintro e w1 ⟨rfl,cI,bo⟩;have d:=h.ak cI bo;have f:=run_convert_bytes_arg (P:=prog) w1 44 5 underlying44 underlying5 b (o+k) m (c-k) (part l k m) (eD a) (d.part a) 9 underlying9;go_wp2;go_ret;exact⟨rfl,aQ d bo⟩
def ot (l:List Int):Prop:=le (part l (l.length-4) 4)=sumOf (part l 0 (l.length-4))
def vG (a:k<=l.length) (i:Nat) (hi:i<k):(part l 0 k).getD i 0=l.getD i 0:=by
 rw [ri hi,Nat.zero_add]
def yG (b o n c:Nat) (l:List Int) (w:World) (C:l.length=n) (E:4<n) (H:n<=1000000) (F:n<=c) (xV:c<=9223372036854775807) (r:Bytes l) (g:∀i,i<n->w.cell? ⟨b,o+i,none⟩=some (.int .u8 (l.getD i 0))) (dw:ot l):
  Calls prog 136 #[.slice (some (aD b o)) n c] w λe w'=>∃p,e= .returned (pQ p)/\w.heap.size<=p/\Rd w' p b o c 0 (part l 0 (n-4))/\bW w w':=by
 have lW:b<w.heap.size:=World.block_lt_of_cell? _ _ (g 0 (by omega));have XB:(n:Int)-4=((n-4:Nat):Int):=by omega
 have I:(0:Int)<=(((n-4:Nat)):Int):=by omega
 have J:(((n-4:Nat)):Int)<=(n:Int):=by omega
 have K:(((n-4:Nat)):Int)<=(c:Int):=by omega
 obtain⟨w1,bd⟩:=cF (w.alloc (.cells #[.slice (some ⟨b,o+(n-4),none⟩) 4 (c-(n-4)), .int .i64 0] 201));have aH:bW w w1:=by rw [bd];exact(cW _ w).alloc (di _) _
 have gM:w1.heap[w.heap.size]? =some (.cells #[.slice (some ⟨b,o+(n-4),none⟩) 4 (c-(n-4)), .int .i64 0] 201 (0,0)):=by rw [bd];exact heap_alloc_new _ _
 have jx:w1.heap.size=w.heap.size+1:=by rw [bd];simp
 have q:(part l (n-4) 4).length=4:=eD (by omega);have Jz:∀a:World,bW w1 a->Rd a w.heap.size b (o+(n-4)) (c-(n-4)) 0 (part l (n-4) 4):=λa d=>
    ⟨by show sF _ _ _ _ _ _ _;unfold sF;rw [q];exact(d.block _ (by omega)).trans gM,by omega,λi hi=>by
   rw [q] at hi;rw [ri hi,Nat.add_assoc];exact cell_later (aH.trans (d.mono (by omega))) (g (n-4+i) (by omega)),db r _ _,by omega,by omega,by omega,λ_=>by have:=d.size;omega⟩
 have mH:∀a:World,bW w1 a->Calls prog 163 #[pQ w.heap.size,iV 4] a λe w'=>e= .returned (iV ((le (part l (n-4) 4):Nat):Int))/\bW w w':=λa d=>by
  refine(mU _ _ _ _ 0 4 _ a (Jz a d) (by omega) (by omega) (by omega)).mono ?_;rintro e w' ⟨rfl,_,A⟩;have y:part (part l (n-4) 4) 0 4=part l (n-4) 4:=by
   show ((part l (n-4) 4).drop 0).take 4=_;rw [List.drop_zero,wl (by omega)]
  have u:=ld (db r (n-4) 4);rw [q] at u;refine⟨?_,(aH.trans (d.mono (by omega))).trans (A.below (λj G=>by omega) (by have:=d.size;omega))⟩;rw [y];congr 2;unfold wrap64;have:(2:Nat) ^ (8*4)=4294967296:=rfl;omega
 have fN:∀a:World,bW w a->Calls prog 129 #[.slice (some (aD b o)) (n-4) c] a λe w'=>e= .returned (iV ((sumOf (part l 0 (n-4)):Nat):Int))/\bW w w'/\(bW w1 a->bW w1 w'):=λa d=>
    (uc (some (aD b o)) (n-4) c _ a (db r _ _) (by omega) ⟨eD (l:=l) (k:=0) (m:=n-4) (by omega),(λh=>by cases h),λx O3 i hi=>by
   cases O3;rw [aV,vG (by omega) i hi];exact cell_later d (g i (by omega))⟩).mono (by rintro e w' ⟨rfl,kj⟩;exact⟨rfl,d.trans (kj.mono d.size),λh=>h.trans (kj.mono h.size)⟩)
 have f:le (part l (n-4) 4)=sumOf (part l 0 (n-4)):=by have:=dw;unfold ot at this;rw [C] at this;exact this
 rw [f] at mH;have ew:=aH;have wO:(∀a:World,bW w a->Rd (a.alloc (.cells #[.slice (some ⟨b,o,none⟩) (n-4) c, .int .i64 0] 201)) a.heap.size b o c 0 (part l 0 (n-4))/\bW w (a.alloc (.cells #[.slice (some ⟨b,o,none⟩) (n-4) c, .int .i64 0] 201))):=λa d=>by
  have v:(part l 0 (n-4)).length=n-4:=eD (by omega);have D:=d.size;refine⟨⟨by show sF _ _ _ _ _ _ _;unfold sF;rw [v];exact heap_alloc_new _ _,by omega,λi hi=>?_,db r _ _,by omega,by omega,by omega,λ_=>by simp;omega⟩,d.alloc D _⟩;rw [v] at hi;rw [vG (by omega) i hi];exact Lib.cell?_alloc_some _ (cell_later d (g i (by omega)))
 have acG:=mH;have L9:=fN;generalize sumOf (part l 0 (n-4))=S at*;have z:n-(n-4)=4:=by omega
 have acH:¬c=n-4:=by omega
 clear g Jz gM q dw f mH fN aH;go_in;go_wp2_with fail;rw [<-bd];clear bd;have Fy:=(ah (cW w1.heap.size w1));have s:=(ah ew)
 go_region_with (first
  |(go_at_call 163;refine(acG _ ?_).mono ?_;(first|exact Fy|exact t);rintro e L ⟨rfl,aG⟩;have Pi:=aG;clear aG)
  |(go_at_call 129;refine(L9 _ ?_).mono ?_;(first|exact s|exact Pi);rintro e M ⟨rfl,bH,K6⟩;have XX:=bH;(try have t:=(K6 Fy));clear bH K6)
  |(go_at_call 161;refine(qj _).mono ?_;rintro e N ⟨rfl,rfl⟩))
 all_goals
  go_wp2;go_ret;first
   |exact⟨_,rfl,XX.size,(wO _ XX).1,(wO _ XX).2⟩
   |exact⟨_,rfl,Pi.size,(wO _ Pi).1,(wO _ Pi).2⟩
def vH {P:Program} {b:Array Oper} {o:Oper} {a:Act} {K:Act->World->Prop} {Q:Exit->Act->World->Prop} (A3:o.guard=none) (f:FuncId) (args:Array Value)
    (KT:(execOp a.eval o).run P w= .ok (.enter f args) w) (R:Value->World->Prop) (c:Calls P f args w λe w'=>∃v,e= .returned v/\R v w') (h:∀v w',R v w'->K (a.put o.dst v) w'):
  if Region.wanted o (yielded b a.tmps)=true then Oper.wp P o a w K Q else E:=by
 have g:Region.wanted o (yielded b a.tmps)=true:=by simp [Region.wanted,A3]
 rw [aN g];unfold Oper.wp;rw [KT,Oper.upon_enter];refine c.mono ?_;rintro e w' ⟨v,rfl,d⟩;exact h v w' d
def J6 {P:Program} {c:Array Oper} {o:Oper} {a:Act} {K:Act->World->Prop} {Q:Exit->Act->World->Prop} (A3:o.guard=none) (f:FuncId) (args:Array Value)
    (KT:(execOp a.eval o).run P w= .ok (.enter f args) w) (b:List PanicEntry) (d:Calls P f args w λe w'=>e= .panicked b/\w'=w) (g:Q (.panic b) a w) (_:False->K (a.put o.dst undef) w):
  if Region.wanted o (yielded c a.tmps)=true then Oper.wp P o a w K Q else E:=by
 have i:Region.wanted o (yielded c a.tmps)=true:=by simp [Region.wanted,A3]
 rw [aN i];unfold Oper.wp;rw [KT,Oper.upon_enter];refine d.mono ?_;rintro e w' ⟨rfl,rfl⟩;exact g
def J7 (b o n c:Nat) (l:List Int) (w:World) (C:l.length=n) (D:4<n) (G:n<=1000000) (E:n<=c) (xV:c<=9223372036854775807) (q:Bytes l) (s:∀i,i<n->w.cell? ⟨b,o+i,none⟩=some (.int .u8 (l.getD i 0))) (dw:¬ot l):
  Calls prog 136 #[.slice (some (aD b o)) n c] w λe w'=>e= .panicked lP/\bW w w':=by
 have lW:b<w.heap.size:=World.block_lt_of_cell? _ _ (s 0 (by omega));have XB:(n:Int)-4=((n-4:Nat):Int):=by omega
 have H:(0:Int)<=(((n-4:Nat)):Int):=by omega
 have I:(((n-4:Nat)):Int)<=(n:Int):=by omega
 have J:(((n-4:Nat)):Int)<=(c:Int):=by omega
 obtain⟨w1,bd⟩:=cF (w.alloc (.cells #[.slice (some ⟨b,o+(n-4),none⟩) 4 (c-(n-4)), .int .i64 0] 201));have aH:bW w w1:=by rw [bd];exact(cW _ w).alloc (di _) _
 have gM:w1.heap[w.heap.size]? =some (.cells #[.slice (some ⟨b,o+(n-4),none⟩) 4 (c-(n-4)), .int .i64 0] 201 (0,0)):=by rw [bd];exact heap_alloc_new _ _
 have jx:w1.heap.size=w.heap.size+1:=by rw [bd];simp
 have f:(part l (n-4) 4).length=4:=eD (by omega);have Jz:∀a:World,bW w1 a->Rd a w.heap.size b (o+(n-4)) (c-(n-4)) 0 (part l (n-4) 4):=λa d=>
    ⟨by show sF _ _ _ _ _ _ _;unfold sF;rw [f];exact(d.block _ (by omega)).trans gM,by omega,λi hi=>by
   rw [f] at hi;rw [ri hi,Nat.add_assoc];exact cell_later (aH.trans (d.mono (by omega))) (s (n-4+i) (by omega)),db q _ _,by omega,by omega,by omega,λ_=>by have:=d.size;omega⟩
 have mH:∀a:World,bW w1 a->Calls prog 163 #[pQ w.heap.size,iV 4] a λe w'=>e= .returned (iV ((le (part l (n-4) 4):Nat):Int))/\bW w w':=λa d=>by
  refine(mU _ _ _ _ 0 4 _ a (Jz a d) (by omega) (by omega) (by omega)).mono ?_;rintro e w' ⟨rfl,_,A⟩;have t:part (part l (n-4) 4) 0 4=part l (n-4) 4:=by
   show ((part l (n-4) 4).drop 0).take 4=_;rw [List.drop_zero,wl (by omega)]
  have r:=ld (db q (n-4) 4);rw [f] at r;refine⟨?_,(aH.trans (d.mono (by omega))).trans (A.below (λj F=>by omega) (by have:=d.size;omega))⟩;rw [t];congr 2;unfold wrap64;have:(2:Nat) ^ (8*4)=4294967296:=rfl;omega
 have fN:∀a:World,bW w a->Calls prog 129 #[.slice (some (aD b o)) (n-4) c] a λe w'=>e= .returned (iV ((sumOf (part l 0 (n-4)):Nat):Int))/\bW w w'/\(bW w1 a->bW w1 w'):=λa d=>
    (uc (some (aD b o)) (n-4) c _ a (db q _ _) (by omega) ⟨eD (l:=l) (k:=0) (m:=n-4) (by omega),(λh=>by cases h),λx O3 i hi=>by
   cases O3;rw [aV,vG (by omega) i hi];exact cell_later d (s i (by omega))⟩).mono (by rintro e w' ⟨rfl,kj⟩;exact⟨rfl,d.trans (kj.mono d.size),λh=>h.trans (kj.mono h.size)⟩)
 have z:le (part l (n-4) 4)≠sumOf (part l 0 (n-4)):=by have:=dw;unfold ot at this;rw [C] at this;exact this
 have Cn:(((le (part l (n-4) 4):Nat):Int) == ((sumOf (part l 0 (n-4)):Nat):Int))=false:=by rw [Bool.eq_false_iff,ne_eq,beq_iff_eq];omega
 generalize sumOf (part l 0 (n-4))=S at*;generalize le (part l (n-4) 4)=L at*;have u:n-(n-4)=4:=by omega
 have acH:¬c=n-4:=by omega
 go_in;go_wp2_with fail;rw [<-bd];have Fy:=(ah (cW w1.heap.size w1));have g:=(ah aH);have XY:(∀a:World,bW w1 a->Calls prog 163 #[pQ w.heap.size,iV 4] a λe w'=>∃v,e= .returned v/\(v=iV (L:Int)/\bW w w')):=λa d=>(mH a d).mono (by rintro e w' ⟨rfl,h⟩;exact⟨_,rfl,rfl,h⟩);have XZ:(∀a:World,bW w a->Calls prog 129 #[.slice (some (aD b o)) (n-4) c] a λe w'=>∃v,e= .returned v/\(v=iV (S:Int)/\bW w w'/\(bW w1 a->bW w1 w'))):=λa d=>(fN a d).mono (by rintro e w' ⟨rfl,h⟩;exact⟨_,rfl,rfl,h⟩)
 go_region_law
  (first
   |(refine vH (by rfl) 163 #[pQ w.heap.size,iV 4] (by simp [go_sem]) _ (XY _ ?_) ?_;(first|exact Fy|exact p);rintro _ K ⟨rfl,aG⟩;have Pi:=aG;clear aG)
   |(refine vH (by rfl) 129 #[.slice (some (aD b o)) (n-4) c] (by simp [go_sem]) _ (XZ _ ?_) ?_;(first|exact g|exact Pi);rintro _ M ⟨rfl,bH,K6⟩;have XX:=bH;(try have p:=(K6 Fy));clear bH K6)
   |(refine J6 (by rfl) 161 #[.bool false] (by simp [go_sem]) lP (Ao _) ?_ ?_;(first|exact⟨rfl,rfl,XX⟩|exact⟨rfl,rfl,Pi⟩);intro y))
 all_goals exact y.elim
def Fz (a:xs=iI):((strOfNums xs).toList == [118,101,108,108,117,109,0,1])=true:=by
 subst a;decide+kernel
def Uu (h:Bytes xs) (a:xs≠iI):((strOfNums xs).toList == [118,101,108,108,117,109,0,1])=false:=by
 rw [Bool.eq_false_iff,ne_eq,beq_iff_eq];intro e;apply a;have:=Az h;rw [<-this];unfold JP;rw [<-ByteArray.toList_eq,e];rfl
def u32 (l:List Int) (k:Nat):Nat:=le (part l k 4)
def Uv (h:Bytes l) (a:k+4<=l.length):u32 l k<4294967296:=by
 have:=ld (db h k 4);rw [eD a] at this;exact this
def Nu (h:Bytes l) (a:k+4<=l.length):wrap64 ((le (part l k 4):Nat):Int)=((u32 l k:Nat):Int):=by
 have:=Uv h a;unfold u32 at*;unfold wrap64;omega
def rt (p b o c k:Nat) (l:List Int) (w:World) (h:Rd w p b o c k l) (a:k+4<=l.length) (rU:k<c):
  Calls prog 163 #[pQ p,iV 4] w λe w'=>e= .returned (iV ((u32 l k:Nat):Int))/\Rd w' p b o c (k+4) l/\ad (λj=>j=p) w w':=by
 refine(mU p b o c k 4 l w h a rU (by omega)).mono ?_;rintro e w' ⟨rfl,d,f⟩;exact⟨by rw [Nu h.bytes a],d,f⟩
structure Reads (p g:Nat) (w w':World) (cs:Array Value) (t:TypeId):Prop where
 k:ad (λj=>j=p) w w'
 j9:w'.heap[g]? =some (.cells cs t (0,0))
 ne:g≠p
def Reads.step {t:TypeId} (h:Reads p g w w1 cs t) (a:ad (λj=>j=p) w1 w2):Reads p g w w2 cs t:=
   ⟨h.k.trans a (λ_ h=> .inl h),(a.block g (oF.1 h.j9).1 h.ne).trans h.j9,h.ne⟩
def Reads.below {t:TypeId} (h:Reads p g w w1 cs t) (a:bW w1 w2):Reads p g w w2 cs t:=h.step (ad.ag _ a)
def ad.put (h:ad F w wx) (a:w.heap.size<=g) (v:Value):ad F w (wx.setCell ⟨g,i,none⟩ v):=
 h.trans (ad.setCell (F:=λj=>j=g) (p:=⟨g,i,none⟩) wx rfl v) (λj b=> .inr (by omega))
def ad.more (h:ad F w wx) (o:Obj):ad F w (wx.alloc o):=h.trans (ad.alloc F wx o) (λ_ h=> .inl h)
structure C5 (l:List Int):Prop where
 head:part l 0 8=iI
 sY:rj (part l 20 488)
 Nv:vy (u32 l 8) (u32 l 12) (u32 l 16)
def AA (p b o c:Nat) (l:List Int) (w:World) (h:Rd w p b o c 0 l) (L:l.length=508) (dw:C5 l):
  Calls prog 135 #[pQ p] w λe w'=>e= .returned (.agg #[iV ((u32 l 8:Nat):Int),iV ((u32 l 12:Nat):Int),iV ((u32 l 16:Nat):Int)])/\ad (λj=>j=p) w w':=by
 have K:=h.cap;have Uw:=Fz dw.head;have tP:=(oF.1 h.rd).1;obtain⟨w1,bd⟩:=cF (w.alloc (.cells #[.int .i64 0, .int .i64 0, .int .i64 0] 31));have aH:bW w w1:=by rw [bd];exact(cW _ w).alloc (di _) _
 have n:Reads p w.heap.size w w1 #[iV 0,iV 0,iV 0] 31:=⟨ad.ag _ aH,by rw [bd];exact heap_alloc_new _ _,by omega⟩;have x:Calls prog 162 #[pQ p,iV 8] w1 λe w'=>e= .returned (.string (strOfNums (part l 0 8)))/\Rd w' p b o c 8 l/\ad (λj=>j=p) w1 w':=rq p b o c 0 8 l w1 (h.tM aH) (by omega) (by omega);generalize strOfNums (part l 0 8)=C at*;go_in;go_wp2_with fail;rw [<-bd];refine j8 x λD eB aK=>?_;go_wp2_with fail;refine(qj _).mono ?_;rintro e P ⟨rfl,i⟩;have fJ:=i.symm;subst fJ;go_wp2_with fail;refine(rt p b o c 8 l D eB (by omega) (by omega)).mono ?_;rintro e E ⟨rfl,C6,dF⟩;go_wp2_with fail;refine(rt p b o c 12 l E C6 (by omega) (by omega)).mono ?_;rintro e F ⟨rfl,Ic,cB⟩;go_wp2_with fail;refine(rt p b o c 16 l F Ic (by omega) (by omega)).mono ?_;rintro e f ⟨rfl,Pj,jP⟩;have X0:=((((n.step aK).step dF).step cB).step jP);have u:=(oF.1 Pj.rd).1;have z:∀g:World,bW f g->Calls prog 164 #[pQ p,iV 508] g λe w'=>e= .returned (.tuple #[])/\Rd w' p b o c 508 l/\ad (λj=>j=p) g w':=λg y=>yy p b o c 20 488 l g (Pj.tM y) (by omega) (by omega) dw.sY;have Si:∀o,bW f (f.alloc o):=λo=>(cW _ f).alloc (di _) _;go_wp2_with fail;refine(z _ (Si _)).mono ?_;rintro e m ⟨rfl,_,iu⟩;have Nx:m.heap[f.heap.size]? =some (.cells #[.int .i64 ((u32 l 8:Nat):Int), .int .i64 ((u32 l 12:Nat):Int), .int .i64 ((u32 l 16:Nat):Int)] 31 (0,0)):=(iu.block _ (by simp) (by omega)).trans (heap_alloc_new _ _);obtain⟨a,A,s1,s2⟩:=jJ dw.Nv (aL Nx) (bY Nx) (cJ Nx);go_wp2_with fail;refine(oN (u32 l 8) (u32 l 12) (u32 l 16) m a.1.1 a.1.2 a.2.1.1 a.2.1.2 a.2.2.1 a.2.2.2.1 a.2.2.2.2).mono ?_;rintro e G ⟨rfl,yD⟩;obtain⟨d,M,N,O,t⟩:=gB ((((X0.below (Si _)).step iu).below yD)) (cell_later yD A) (cell_later yD s1) (cell_later yD s2) (wu (oF.1 Nx).1 yD.size);have ia:=d.j9;have VJ:=λo=>(Below.heap_alloc G o _ (oF.1 ia).1).trans ia;have q:=λo=>aL (VJ o);have r:=λo=>bY (VJ o);have s:=λo=>cJ (VJ o);have H:=λo=>ae (VJ o) 0;have I:=λo=>ae (VJ o) 1;have J:=λo=>ae (VJ o) 2;go_wp2_with fail;refine(qj _).mono ?_;rintro e Q ⟨rfl,i⟩;have fJ:=i.symm;subst fJ;go_wp2;refine bodyPost_ret (v:= .agg #[iV ((u32 l 8:Nat):Int),iV ((u32 l 12:Nat):Int),iV ((u32 l 16:Nat):Int)]) (by simp [results,results135,go_sem,q,r,s]) rfl ⟨rfl,?_⟩;exact(((d.k.more _).put (di _) _).put (di _) _).put (di _) _
def xm (p b o c:Nat) (l:List Int) (w:World) (h:Rd w p b o c 0 l) (m:l.length=508) (dw:part l 0 8≠iI):
  Calls prog 135 #[pQ p] w λe w'=>e= .panicked lP/\ad (λj=>j=p) w w':=by
 have i:=h.cap;have Uw:=Uu (db h.bytes 0 8) dw;have tP:=(oF.1 h.rd).1;obtain⟨w1,bd⟩:=cF (w.alloc (.cells #[.int .i64 0, .int .i64 0, .int .i64 0] 31));have aH:bW w w1:=by rw [bd];exact(cW _ w).alloc (di _) _
 have a:Reads p w.heap.size w w1 #[iV 0,iV 0,iV 0] 31:=⟨ad.ag _ aH,by rw [bd];exact heap_alloc_new _ _,by omega⟩;have d:Calls prog 162 #[pQ p,iV 8] w1 λe w'=>e= .returned (.string (strOfNums (part l 0 8)))/\Rd w' p b o c 8 l/\ad (λj=>j=p) w1 w':=rq p b o c 0 8 l w1 (h.tM aH) (by omega) (by omega);generalize strOfNums (part l 0 8)=g at*;go_in;go_wp2_with fail;rw [<-bd];refine j8 d λn eB aK=>?_;go_wp2_with fail;refine(Ao _).mono ?_;rintro e q ⟨rfl,f⟩;have fJ:=f.symm;subst fJ;go_wp2;exact⟨rfl,rfl,(a.step aK).k⟩
def xn (p b o c:Nat) (l:List Int) (w:World) (h:Rd w p b o c 0 l) (y:l.length=508) (g:part l 0 8=iI) (i:¬rj (part l 20 488)):
  Calls prog 135 #[pQ p] w λe w'=>e= .panicked lP/\ad (λj=>j=p) w w':=by
 have x:=h.cap;have Uw:=Fz g;have tP:=(oF.1 h.rd).1;obtain⟨w1,bd⟩:=cF (w.alloc (.cells #[.int .i64 0, .int .i64 0, .int .i64 0] 31));have aH:bW w w1:=by rw [bd];exact(cW _ w).alloc (di _) _
 have f:Reads p w.heap.size w w1 #[iV 0,iV 0,iV 0] 31:=⟨ad.ag _ aH,by rw [bd];exact heap_alloc_new _ _,by omega⟩;have m:Calls prog 162 #[pQ p,iV 8] w1 λe w'=>e= .returned (.string (strOfNums (part l 0 8)))/\Rd w' p b o c 8 l/\ad (λj=>j=p) w1 w':=rq p b o c 0 8 l w1 (h.tM aH) (by omega) (by omega);generalize strOfNums (part l 0 8)=s at*;go_in;go_wp2_with fail;rw [<-bd];refine j8 m λt eB aK=>?_;go_wp2_with fail;refine(qj _).mono ?_;rintro e z ⟨rfl,n⟩;have fJ:=n.symm;subst fJ;go_wp2_with fail;refine(rt p b o c 8 l t eB (by omega) (by omega)).mono ?_;rintro e u ⟨rfl,C6,dF⟩;go_wp2_with fail;refine(rt p b o c 12 l u C6 (by omega) (by omega)).mono ?_;rintro e v ⟨rfl,Ic,cB⟩;go_wp2_with fail;refine(rt p b o c 16 l v Ic (by omega) (by omega)).mono ?_;rintro e d ⟨rfl,Pj,jP⟩;have X0:=((((f.step aK).step dF).step cB).step jP);have r:∀a:World,bW d a->Calls prog 164 #[pQ p,iV 508] a λe w'=>e= .panicked lP/\ad (λj=>j=p) a w':=λa q=>JX p b o c 20 488 l a (Pj.tM q) (by omega) (by omega) i;have Si:∀o,bW d (d.alloc o):=λo=>(cW _ d).alloc (di _) _;go_wp2_with fail;refine(r _ (Si _)).mono ?_;rintro e A ⟨rfl,iu⟩;go_wp2;exact⟨rfl,rfl,((X0.below (Si _)).step iu).k⟩
def xo (p b o c:Nat) (l:List Int) (w:World) (h:Rd w p b o c 0 l) (G:l.length=508) (m:part l 0 8=iI) (n:rj (part l 20 488)) (q:¬vy (u32 l 8) (u32 l 12) (u32 l 16)):
  Calls prog 135 #[pQ p] w λe w'=>e= .panicked lP/\ad (λj=>j=p) w w':=by
 have F:=h.cap;have Uw:=Fz m;have tP:=(oF.1 h.rd).1;obtain⟨w1,bd⟩:=cF (w.alloc (.cells #[.int .i64 0, .int .i64 0, .int .i64 0] 31));have aH:bW w w1:=by rw [bd];exact(cW _ w).alloc (di _) _
 have i:Reads p w.heap.size w w1 #[iV 0,iV 0,iV 0] 31:=⟨ad.ag _ aH,by rw [bd];exact heap_alloc_new _ _,by omega⟩;have u:Calls prog 162 #[pQ p,iV 8] w1 λe w'=>e= .returned (.string (strOfNums (part l 0 8)))/\Rd w' p b o c 8 l/\ad (λj=>j=p) w1 w':=rq p b o c 0 8 l w1 (h.tM aH) (by omega) (by omega);generalize strOfNums (part l 0 8)=A at*;go_in;go_wp2_with fail;rw [<-bd];refine j8 u λC eB aK=>?_;go_wp2_with fail;refine(qj _).mono ?_;rintro e I ⟨rfl,g⟩;have fJ:=g.symm;subst fJ;go_wp2_with fail;refine(rt p b o c 8 l C eB (by omega) (by omega)).mono ?_;rintro e D ⟨rfl,C6,dF⟩;go_wp2_with fail;refine(rt p b o c 12 l D C6 (by omega) (by omega)).mono ?_;rintro e E ⟨rfl,Ic,cB⟩;go_wp2_with fail;refine(rt p b o c 16 l E Ic (by omega) (by omega)).mono ?_;rintro e a ⟨rfl,Pj,jP⟩;have X0:=((((i.step aK).step dF).step cB).step jP);have t:=(oF.1 Pj.rd).1;have z:∀d:World,bW a d->Calls prog 164 #[pQ p,iV 508] d λe w'=>e= .returned (.tuple #[])/\Rd w' p b o c 508 l/\ad (λj=>j=p) d w':=λd y=>yy p b o c 20 488 l d (Pj.tM y) (by omega) (by omega) n;have Si:∀o,bW a (a.alloc o):=λo=>(cW _ a).alloc (di _) _;go_wp2_with fail;refine(z _ (Si _)).mono ?_;rintro e f ⟨rfl,_,iu⟩;have Nx:f.heap[a.heap.size]? =some (.cells #[.int .i64 ((u32 l 8:Nat):Int), .int .i64 ((u32 l 12:Nat):Int), .int .i64 ((u32 l 16:Nat):Int)] 31 (0,0)):=(iu.block _ (by simp) (by omega)).trans (heap_alloc_new _ _);have V8:Calls prog 89 #[.agg #[iV ((u32 l 8:Nat):Int),iV ((u32 l 12:Nat):Int),iV ((u32 l 16:Nat):Int)]] f λe w'=>e= .returned (.tuple #[.agg #[iV 0,iV 0,iV 0,iV 0,iV 0],iV 22])/\bW f w':=by
  refine(Cz _ _ _ f).mono ?_;rintro e w' ⟨v,x,rfl,⟨s,_⟩|⟨_,rfl,rfl⟩,r⟩
  .exact absurd s q
  .exact⟨rfl,r⟩
 have H:=aL Nx;have s1:=bY Nx;have s2:=cJ Nx;go_wp2_with fail;refine ef V8 λJ yD=>?_;go_wp2_with fail;refine(Ao _).mono ?_;rintro e K ⟨rfl,g⟩;have fJ:=g.symm;subst fJ;go_wp2;exact⟨rfl,rfl,(((X0.below (Si _)).step iu).below yD).k.more _⟩
def AB (p b o c:Nat) (l:List Int) (w:World) (h:Rd w p b o c 0 l) (f:l.length=508) (dw:¬C5 l):
  Calls prog 135 #[pQ p] w λe w'=>e= .panicked lP/\ad (λj=>j=p) w w':=by
 by_cases a:part l 0 8=iI
 .by_cases d:rj (part l 20 488)
  .exact xo p b o c l w h f a d (λg=>dw ⟨a,d,g⟩)
  .exact xn p b o c l w h f a d
 .exact xm p b o c l w h f a
def Ny:∀{xs:List Int},Bytes xs->br xs.length (le xs)=xs
 | [],_=>rfl
 |x :: t,h=>by
  have d:=h x (by simp);rw [List.length_cons,br,le];have a:(x.toNat+256*le t) / 256=le t:=by omega
  have b:(((x.toNat+256*le t)%256:Nat):Int)=x:=by omega
  rw [a,b,(Ny (xs:=t) (λy c=>h y (by simp [c])))]
def sQ:∀(k m:Nat),m<256 ^ k->le (br k m)=m
 |0,m,h=>by simp at h;simp [br,le,h]
 |k+1,m,h=>by
  have a:m / 256<256 ^ k:=by rw [Nat.pow_succ] at h;exact Nat.div_lt_of_lt_mul (by rw [Nat.mul_comm];exact h)
  rw [br,le,sQ k _ a];omega
def J8 (h:∀x∈l,x=0):l=List.replicate l.length 0:=List.eq_replicate_iff.2 ⟨rfl,h⟩
def iU {a m:Nat} (h:q+m<=a):part (part l 0 a) q m=part l q m:=by
 unfold part;rw [List.drop_zero,List.drop_take,List.take_take];congr 1;omega
def kO (l:List Int) (q m k:Nat):part l q (m+k)=part l q m ++ part l (q+m) k:=by
 unfold part;rw [List.take_add,List.drop_drop]
def C7 (l:List Int):part l 0 l.length=l:=by simp [part]
def mi (A B:List Int) (q m:Nat) (h:q=A.length):part (A ++ B) q m=B.take m:=by
 subst h;simp [part]
def eV (A B:List Int) (q m:Nat) (h:q+m<=A.length):part (A ++ B) q m=part A q m:=by
 unfold part;rw [List.drop_append_of_le_length (by omega),List.take_append_of_le_length (by simp;omega)]
def ru (a:Bytes l) (b:q+4<=l.length):br 4 (u32 l q)=part l q 4:=by
 have:=Ny (db a q 4);rw [eD b] at this;exact this
def Nz (l:List Int):Prop:=vy (u32 l 8) (u32 l 12) (u32 l 16)/\eT (bV (u32 l 8) (u32 l 12) (u32 l 16))=l
def J9 (b:Bytes l) (j:l.length=512):(ot l/\C5 (part l 0 508))↔Nz l:=by
 have u1:u32 (part l 0 508) 8=u32 l 8:=by unfold u32;rw [iU (by omega)]
 have u2:u32 (part l 0 508) 12=u32 l 12:=by unfold u32;rw [iU (by omega)]
 have u3:u32 (part l 0 508) 16=u32 l 16:=by unfold u32;rw [iU (by omega)]
 have L8:part l 0 508=part l 0 8 ++ part l 8 4 ++ part l 12 4 ++ part l 16 4 ++ part l 20 488:=by
  rw [show (508:Nat)=8+4+4+4+488 from rfl,kO,kO,kO,kO]
 have Ux:l=part l 0 508 ++ part l 508 4:=by
  have:=kO l 0 508 4;rw [show 508+4=l.length by omega,C7] at this;exact this
 constructor
 .rintro ⟨f,i,k,c⟩;rw [u1,u2,u3] at c;rw [iU (by omega)] at i k;refine⟨c,?_⟩;have e:bV (u32 l 8) (u32 l 12) (u32 l 16)=part l 0 508:=by
   rw [L8,i,<-ru b (q:=8) (by omega),<-ru b (q:=12) (by omega),<-ru b (q:=16) (by omega)];have:=J8 k;rw [eD (by omega)] at this;rw [this];rfl
  unfold eT;rw [e];unfold ot at f;rw [j] at f;have m:u32 l 508=sumOf (part l 0 508):=f;rw [<-m,(ru b (q:=508) (by omega))];exact Ux.symm
 .rintro ⟨c,g⟩;have a:=eC (u32 l 8) (u32 l 12) (u32 l 16);have NA:part l 0 508=bV (u32 l 8) (u32 l 12) (u32 l 16):=by
   conv=>lhs;rw [<-g]
   unfold eT;rw [eV _ _ _ _ (by omega)];have:=C7 (bV (u32 l 8) (u32 l 12) (u32 l 16));rw [a] at this;exact this
  have BC:part l 508 4=br 4 (sumOf (bV (u32 l 8) (u32 l 12) (u32 l 16))):=by
   conv=>lhs;rw [<-g]
   unfold eT;rw [mi _ _ _ _ a.symm,wl (by rw [aP];omega)]
  refine⟨?_,?_,?_,?_⟩
  .unfold ot;rw [j];show le (part l 508 4)=sumOf (part l 0 508);rw [BC,NA,sQ _ _ (by have:=qE (ja (u32 l 8) (u32 l 12) (u32 l 16));omega)]
  .rw [NA];unfold bV;rw [GC,GC,GC,eV _ _ _ _ (by decide)];rfl
  .rw [NA];unfold bV;have d:(iI ++ br 4 (u32 l 8) ++ br 4 (u32 l 12) ++ br 4 (u32 l 16)).length=20:=(by rw [gT,gT,gT,aP,aP,aP];rfl);rw [mi _ _ _ _ d.symm];intro x n;exact List.eq_of_mem_replicate (List.mem_of_mem_take n)
  .rw [u1,u2,u3];exact c
def rv (a c:Nat) (f a1 a2:Value) (x:Value) (w:World) (b:w.heap[a]? =some (.cells #[f,a1,a2] 31 (0,0))) (d:w.heap[c]? =some (.cells #[x] 39 (0,0))) (eM:a≠c):
  CallsD prog 134 #[pQ a,pQ c] (.panicking lP) w λe i w'=>
   e= .returned (.tuple #[])/\i= .panicking [{v:= .iface 39 (iV 6),recovered:=true}]/\w'=(((w.setCell ⟨a,0,none⟩ (.int .i64 0)).setCell ⟨a,1,none⟩ (.int .i64 0)).setCell ⟨a,2,none⟩ (.int .i64 0)).setCell ⟨c,0,none⟩ (.int .i64 6):=by
 have acK:¬c=a:=λe=>eM e.symm;refine callsD_of_wpS func134 rfl λj cs g=>?_;apply wpS_seq;apply wpS_region;simp [wpOpsS,go_sem,recoverD,g,ntmps134,Exit.thenS];refine wpS_cond (t:=true) (by simp [Act.eval,Array.replicate]) ?_;simp only [if_true];apply wpS_region;simp [wpOpsS,go_sem,aL b,bY b,cJ b,ae b 0,ae b 1,ae b 2,aL d,ae d 0,bodyPostS,results,results134]
def C8 (b c:Nat) (w:World):
  CallsD prog 134 #[pQ b,pQ c] .returning w λe f w'=>e= .returned (.tuple #[])/\f= .returning/\w'=w:=by
 refine callsD_of_wpS func134 rfl λa cs d=>?_;apply wpS_seq;apply wpS_region;simp [wpOpsS,go_sem,recoverD,d,ntmps134,Exit.thenS];refine wpS_cond (t:=false) (by simp [Act.eval,Array.replicate]) ?_;simp only [Bool.false_eq_true,if_false];refine wpS_of_wp (wp_skip ?_);cases a
 simp_all [bodyPostS,results,results134]
def oS {B:Nat} (h:Below B w wx) (b:B<=g) (a:B<=wx.heap.size) (v:Value):Below B w (wx.setCell ⟨g,i,none⟩ v):=
 h.trans ((ad.setCell (F:=λj=>j=g) (p:=⟨g,i,none⟩) wx rfl v).below (λj c=>by omega) a)
def size_setCell (w:World) (a:Addr) (v:Value):(w.setCell a v).heap.size=w.heap.size:=by simp [World.setCell]
def FA {B:Nat} (h:Below B w wx) {a d:Nat} (c:B<=a) (e:B<=d) (b:B<=wx.heap.size) (x y z u:Value):
  Below B w ((((wx.setCell ⟨a,0,none⟩ x).setCell ⟨a,1,none⟩ y).setCell ⟨a,2,none⟩ z).setCell ⟨d,0,none⟩ u):=
 oS (oS (oS (oS h c b x) c (by rw [size_setCell];exact b) y) c (by rw [size_setCell,size_setCell];exact b) z) e (by rw [size_setCell,size_setCell,size_setCell];exact b) u
def oT (l:List Int):Prop:=ot l/\C5 (part l 0 508)
def C9 (b o c:Nat) (l:List Int) (w:World) (s:l.length=512) (r:512<=c) (xV:c<=9223372036854775807) (q:Bytes l) (t:∀i,i<512->w.cell? ⟨b,o+i,none⟩=some (.int .u8 (l.getD i 0))) (dw:oT l):
  Calls prog 103 #[.slice (some (aD b o)) 512 c] w λe w'=>e= .returned (.tuple #[.agg #[iV ((u32 l 8:Nat):Int),iV ((u32 l 12:Nat):Int),iV ((u32 l 16:Nat):Int)],iV 0])/\bW w w':=by
 obtain⟨w1,bd⟩:=cF ((w.alloc (.cells #[.int .i64 0, .int .i64 0, .int .i64 0] 31)).alloc (.cells #[.int .i64 0] 39));have aH:bW w w1:=by rw [bd];exact bQ w _ _
 have jx:w1.heap.size=w.heap.size+2:=by rw [bd];simp
 have gm:w1.heap[w.heap.size]? =some (.cells #[.int .i64 0, .int .i64 0, .int .i64 0] 31 (0,0)):=by rw [bd];exact heap_alloc2_old _ _ _
 have dU:w1.heap[w.heap.size+1]? =some (.cells #[.int .i64 0] 39 (0,0)):=by rw [bd];exact heap_alloc2_new _ _ _
 go_enter_defers func103,ntmps103
 go_wp2_with fail;rw [<-bd];refine(yG b o 512 c l w1 s (by omega) (by omega) r xV q (λi hi=>cell_later aH (t i hi)) dw.1).mono ?_;rintro e u ⟨p,rfl,C,Jz,aG⟩;have wm:=AA p b o c (part l 0 508) u Jz (eD (by omega)) dw.2;have a:=aH.trans (aG.mono aH.size);have X1:=((aG.block w.heap.size (by omega)).trans gm);have X4:=((aG.block (w.heap.size+1) (by omega)).trans dU);have d:u32 (part l 0 508) 8=u32 l 8:=by unfold u32;congr 1;simp [part,List.drop_take,List.take_take]
 have acL:u32 (part l 0 508) 12=u32 l 12:=by unfold u32;congr 1;simp [part,List.drop_take,List.take_take]
 have acM:u32 (part l 0 508) 16=u32 l 16:=by unfold u32;congr 1;simp [part,List.drop_take,List.take_take]
 rw [d,acL,acM] at wm;go_wp2_with fail;refine ef wm λE aR=>?_;have gm:=(aR.block w.heap.size (oF.1 X1).1 (by omega)).trans X1;have dU:=(aR.block (w.heap.size+1) (oF.1 X4).1 (by omega)).trans X4;obtain⟨nB,g,k,m,x,y,z,n,v⟩:=SM (a.trans (aR.below (λj A=>by omega) a.size)) (aL gm) (bY gm) (cJ gm) (ae gm 0) (ae gm 1) (ae gm 2) (aL dU) (ae dU 0);go_wp2;refine leaves_cons (f:=134) (args:= #[pQ w.heap.size, .pointer (some ⟨w.heap.size+1,0,none⟩)]) (by simp) (by simp [go_sem]) ?_;refine(C8 _ _ _).mono ?_;rintro e D zn ⟨rfl,rfl,rfl⟩;simp [Leaves,settle,results,results103,go_sem,g,k,m,n];exact(FA nB (di w.heap.size) (show w.heap.size<=w.heap.size+1 by omega) nB.size (iV ((u32 l 8:Nat):Int)) (iV ((u32 l 12:Nat):Int)) (iV ((u32 l 16:Nat):Int)) (iV 0))
def AC (b o c:Nat) (l:List Int) (w:World) (m:l.length=512) (k:512<=c) (xV:c<=9223372036854775807) (j:Bytes l) (n:∀i,i<512->w.cell? ⟨b,o+i,none⟩=some (.int .u8 (l.getD i 0))) (g:¬ot l):
  Calls prog 103 #[.slice (some (aD b o)) 512 c] w λe w'=>e= .returned (.tuple #[.agg #[iV 0,iV 0,iV 0],iV 6])/\bW w w':=by
 obtain⟨w1,bd⟩:=cF ((w.alloc (.cells #[.int .i64 0, .int .i64 0, .int .i64 0] 31)).alloc (.cells #[.int .i64 0] 39));have aH:bW w w1:=by rw [bd];exact bQ w _ _
 have jx:w1.heap.size=w.heap.size+2:=by rw [bd];simp
 have gm:w1.heap[w.heap.size]? =some (.cells #[.int .i64 0, .int .i64 0, .int .i64 0] 31 (0,0)):=by rw [bd];exact heap_alloc2_old _ _ _
 have dU:w1.heap[w.heap.size+1]? =some (.cells #[.int .i64 0] 39 (0,0)):=by rw [bd];exact heap_alloc2_new _ _ _
 go_enter_defers func103,ntmps103
 go_wp2_with fail;rw [<-bd];refine(J7 b o 512 c l w1 m (by omega) (by omega) k xV j (λi hi=>cell_later aH (n i hi)) g).mono ?_;rintro e q ⟨rfl,aG⟩;have d:=aH.trans (aG.mono aH.size);have a:=(aQ ((aG.block w.heap.size (by omega)).trans gm) ((aG.block (w.heap.size+1) (by omega)).trans dU));go_wp2;refine leaves_cons (f:=134) (args:= #[pQ w.heap.size, .pointer (some ⟨w.heap.size+1,0,none⟩)]) (by simp) (by simp [go_sem]) ?_;refine(rv w.heap.size (w.heap.size+1) _ _ _ _ _ a.1 a.2 (by omega)).mono ?_;rintro e p zn ⟨rfl,rfl,rfl⟩;simp [Leaves,settle,results,results103,go_sem,aL a.1,bY a.1,cJ a.1,(aL a.2)];exact(FA d (di w.heap.size) (show w.heap.size<=w.heap.size+1 by omega) d.size (iV 0) (iV 0) (iV 0) (iV 6))
def AD (b o c:Nat) (l:List Int) (w:World) (q:l.length=512) (n:512<=c) (xV:c<=9223372036854775807) (m:Bytes l) (r:∀i,i<512->w.cell? ⟨b,o+i,none⟩=some (.int .u8 (l.getD i 0))) (g:ot l) (k:¬C5 (part l 0 508)):
  Calls prog 103 #[.slice (some (aD b o)) 512 c] w λe w'=>e= .returned (.tuple #[.agg #[iV 0,iV 0,iV 0],iV 6])/\bW w w':=by
 obtain⟨w1,bd⟩:=cF ((w.alloc (.cells #[.int .i64 0, .int .i64 0, .int .i64 0] 31)).alloc (.cells #[.int .i64 0] 39));have aH:bW w w1:=by rw [bd];exact bQ w _ _
 have jx:w1.heap.size=w.heap.size+2:=by rw [bd];simp
 have gm:w1.heap[w.heap.size]? =some (.cells #[.int .i64 0, .int .i64 0, .int .i64 0] 31 (0,0)):=by rw [bd];exact heap_alloc2_old _ _ _
 have dU:w1.heap[w.heap.size+1]? =some (.cells #[.int .i64 0] 39 (0,0)):=by rw [bd];exact heap_alloc2_new _ _ _
 go_enter_defers func103,ntmps103
 go_wp2_with fail;rw [<-bd];refine(yG b o 512 c l w1 q (by omega) (by omega) n xV m (λi hi=>cell_later aH (r i hi)) g).mono ?_;rintro e s ⟨p,rfl,u,Jz,aG⟩;have d:=aH.trans (aG.mono aH.size);have X1:=((aG.block w.heap.size (by omega)).trans gm);have X4:=((aG.block (w.heap.size+1) (by omega)).trans dU);go_wp2_with fail;refine(AB p b o c (part l 0 508) s Jz (eD (by omega)) k).mono ?_;rintro e x ⟨rfl,aR⟩;have gm:=(aR.block w.heap.size (oF.1 X1).1 (by omega)).trans X1;have dU:=(aR.block (w.heap.size+1) (oF.1 X4).1 (by omega)).trans X4;have nB:=d.trans (aR.below (λj t=>by omega) d.size);have a:=(aQ gm dU);go_wp2;refine leaves_cons (f:=134) (args:= #[pQ w.heap.size, .pointer (some ⟨w.heap.size+1,0,none⟩)]) (by simp) (by simp [go_sem]) ?_;refine(rv w.heap.size (w.heap.size+1) _ _ _ _ _ a.1 a.2 (by omega)).mono ?_;rintro e v zn ⟨rfl,rfl,rfl⟩;simp [Leaves,settle,results,results103,go_sem,aL a.1,bY a.1,cJ a.1,(aL a.2)];exact(FA nB (di w.heap.size) (show w.heap.size<=w.heap.size+1 by omega) nB.size (iV 0) (iV 0) (iV 0) (iV 6))
def Da (b o c:Nat) (l:List Int) (w:World) (g:l.length=512) (f:512<=c) (xV:c<=9223372036854775807) (d:Bytes l) (j:∀i,i<512->w.cell? ⟨b,o+i,none⟩=some (.int .u8 (l.getD i 0))) (dw:¬oT l):
  Calls prog 103 #[.slice (some (aD b o)) 512 c] w λe w'=>e= .returned (.tuple #[.agg #[iV 0,iV 0,iV 0],iV 6])/\bW w w':=by
 by_cases a:ot l
 .exact AD b o c l w g f xV d j a (λk=>dw ⟨a,k⟩)
 .exact AC b o c l w g f xV d j a
end Go.Proofs.YtkiehemoiapkkaaGreat
