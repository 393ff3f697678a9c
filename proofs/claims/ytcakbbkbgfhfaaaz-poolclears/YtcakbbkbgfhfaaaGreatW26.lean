import Derived.Test.YtcakbbkbgfhfaaaGreatW01
import Derived.Test.YtcakbbkbgfhfaaaGreatW15
import Derived.Test.YtcakbbkbgfhfaaaGreatW25
section
namespace Go.Proofs.YtcakbbkbgfhfaaaGreat
open Go.RowKit Go.Maps
structure RP (w:World) (F:Nat→Prop) (kr p s cR q l m t n a1 a2 k:Nat) (S:DS) (G:SG) (T:TG):Prop where
 b:w.heap[kr]? =some (.cells (rigC p q (.pointer (some ⟨a1,0,none⟩)) (.pointer (some ⟨a2,0,none⟩)) k true) 39 (0,0))
 x:TX w F p s cR q l m t n S G T
 p1:PoolAt w F a1 t n
 p2:PoolAt w F a2 t n
 nk:¬OwT F t n kr
section
variable {w w':World} {F X:Nat→Prop} {kr p s cR q l m t n a1 a2 k:Nat} {S:DS} {G:SG} {T T':TG} {M:MP}
theorem RgW.rp (h:RgW w F X kr p s cR q l m t n a1 a2 k S G T M):RP w F kr p s cR q l m t n a1 a2 k S G T:=
   ⟨h.b,h.x,h.p1,h.p2,fun e=>by rcases e with e|e|e;exact h.nk.1 e;exact h.nk.2.2.2.2.1 e;exact h.nk.2.2.2.2.2 e⟩
theorem RP.on {c':Nat} (h:RP w F kr p s cR q l m t n a1 a2 k S G T) (hx:TX w' F p s c' q l m t n S G T') (hk:Keeps (OwT F t n) w w'):RP w' F kr p s c' q l m t n a1 a2 k S G T':=
   ⟨(hk.block _ (lt_there h.b) h.nk).trans h.b,hx,h.p1.keep hk,h.p2.keep hk,h.nk⟩
theorem RP.later (h:RP w F kr p s cR q l m t n a1 a2 k S G T) (hb:Below w.heap.size w w'):RP w' F kr p s cR q l m t n a1 a2 k S G T:=h.on (h.x.later hb) (Keeps.of_below _ hb)
structure PF (G:SG) (S:DS) (T:TG) (i j:Nat):Prop where
 bad:T.bad=0
 en:T.ended=false
 s0:T.sees G S 0=ebm i
 s1:T.sees G S 1=ebm j
 ks:∀x∈T.puts,x.1<2
theorem PF.refusal {i j b:Nat} (h:PF G S T i j) (hd:G.L.dead S=false) (hb:b<G.y.blocks):T.refusal G S b=0:=by
 have e1:T.over G S=0:=by unfold TG.over;rw [hd,h.en];rfl
 have e2:T.state G S=0:=by unfold TG.state;rw [e1,h.bad];rfl
 unfold TG.refusal
 rw [e2,if_neg (fun h=>h rfl),if_neg (by omega)]
theorem PF.state {i j:Nat} (h:PF G S T i j) (hd:G.L.dead S=false):T.state G S=0:=by
 have e1:T.over G S=0:=by unfold TG.over;rw [hd,h.en];rfl
 unfold TG.state
 rw [e1,h.bad]
 rfl
theorem ebm_ne {i:Nat} (h:i<4096):ebm (i+1)≠ebm i:=fun e=>by
 have h1:=ebm_bit (i+1) (by omega) i
 have h2:=ebm_bit i (by omega) i
 rw [e,h2] at h1
 simp at h1
theorem PF.put {i j:Nat} (h:PF G S T i j) (hd:G.L.dead S=false) (h2:2≤G.y.blocks) (hok:CM.Ok T.puts) (bm c:Nat) (hbm:bm=0∨bm=1) (hl:(ebm (c+1)).length=512) (hc:c<4096) (hs:T.sees G S bm=ebm c):
    (T.put G S bm (ebm (c+1))).1=0∧(T.put G S bm (ebm (c+1))).2={T with puts:=CM.put T.puts bm (ebm (c+1))}:=by
 have hr:=h.refusal (b:=bm) hd (by omega)
 have hlen:T.puts.length≤2:=by
  rcases CM.length_le (n:=2) hok h.ks 0 (fun _ _=>Nat.zero_le _) with h9|h9
  ·omega
  ·rw [h9];exact Nat.zero_le _
 have e:T.put G S bm (ebm (c+1))=(0,{T with puts:=CM.put T.puts bm (ebm (c+1))}):=by
  unfold TG.put
  rw [if_neg (fun h=>h hr),if_neg (fun h=>h hl),Int.toNat_natCast,if_neg (by rw [hs];exact ebm_ne hc),if_neg (fun h=>by omega)]
 rw [e]
 exact⟨rfl,rfl⟩
theorem PF.seen {i j:Nat} (h:PF G S T i j) (hok:CM.Ok T.puts) (c:Nat):PF G S {T with puts:=CM.put T.puts 0 (ebm c)} c j∧PF G S {T with puts:=CM.put T.puts 1 (ebm c)} i c:=by
 have k0:∀b,b<2→∀x∈CM.put T.puts b (ebm c),x.1<2:=fun b hb x hx=>by
  rcases CM.put_key hx with rfl|hx
  ·exact hb
  ·exact h.ks x hx
 have g:∀b b',({T with puts:=CM.put T.puts b (ebm c)}:TG).sees G S b'=if b'=b then ebm c else T.sees G S b':=fun b b'=>by
  show (CM.get (CM.put T.puts b (ebm c)) b').getD _=_
  rw [CM.get_put _ _ _ _ hok]
  split <;> rfl
 refine⟨⟨h.bad,h.en,(g 0 0).trans (if_pos rfl),(g 0 1).trans ((if_neg (by omega)).trans h.s1),k0 0 (by omega)⟩,⟨h.bad,h.en,(g 1 0).trans ((if_neg (by omega)).trans h.s0),(g 1 1).trans (if_pos rfl),k0 1 (by omega)⟩⟩
theorem ebm_low {a i c:Nat} (h1:a≤i) (h2:i<a+c) (h3:a+c≤4096):lowBit (ebm i) a c=some i:=by
 obtain⟨k,rfl⟩:∃k,i=a+k:=⟨i-a,by omega⟩
 obtain⟨r,rfl⟩:∃r,c=k+(r+1):=⟨c-k-1,by omega⟩
 rw [lowBit_skip (fun j h4 h5=>by rw [ebm_bit _ (by omega)];simpa using h5)]
 show (if bitOf (ebm (a+k)) (a+k)=false then some (a+k) else _)=_
 rw [if_pos (by rw [ebm_bit _ (by omega)];simp)]
theorem ebm_full {a c:Nat} (h3:a+c≤4096):lowBit (ebm (a+c)) a c=none:=by
 have:=lowBit_skip (l:=ebm (a+c)) (k:=c) (n:=0) (a:=a) (fun j h4 h5=>by rw [ebm_bit _ (by omega)];simpa using h5)
 rw [Nat.add_zero] at this
 rw [this]
 rfl
end
end Go.Proofs.YtcakbbkbgfhfaaaGreat
end
section
namespace Go.Proofs.YtcakbbkbgfhfaaaGreat
open Go.RowKit Go.Maps
section
variable {w w':World} {F X:Nat→Prop} {kr p s cR q l m t n a1 a2 k:Nat} {S:DS} {G:SG} {T T':TG} {M:MP}
theorem PF.takeK {i j c:Nat} (h:PF G S T i j) (hd:G.L.dead S=false) (h2:2≤G.y.blocks) (hok:CM.Ok T.puts) {k:STK} (hk:k.Ok) (hs:T.sees G S k.bm=ebm c) (h3:k.first-k.zero≤c) (h4:c<k.first-k.zero+k.cnt):
  T.takes G S k=(((c+k.zero:Nat):Int),0,{T with puts:=CM.put T.puts k.bm (ebm (c+1))}):=by
 have hbm:=hk.bm
 have hhi:=hk.hi
 have hr:=h.refusal (b:=k.bm) hd (by omega)
 obtain⟨p1,p2⟩:=h.put hd h2 hok k.bm c (by omega) (ebm_len _) (by omega) hs
 have e:T.ptake G S k=(some (c+k.zero),0,{T with puts:=CM.put T.puts k.bm (ebm (c+1))}):=by
  unfold TG.ptake
  rw [if_neg (fun h=>h hr),hs,ebm_low h3 h4 (by omega)]
  unfold TG.ptook
  dsimp only
  rw [hs]
  have e9:turnBit (ebm c) c=ebm (c+1):=rfl
  rw [e9,if_pos p1,p2]
 unfold TG.takes
 rw [e]
theorem PF.spoilK {i j:Nat} (h:PF G S T i j) (hd:G.L.dead S=false) {x:Int} (hx:x=60∨x=61):(T.spoil G S x).2={T with bad:=x}:=by
 unfold TG.spoil
 rw [if_neg (fun e=>e (h.state hd)),if_pos (by omega)]
theorem PF.takeNo {i j c:Nat} (h:PF G S T i j) (hd:G.L.dead S=false) (h2:2≤G.y.blocks) {k:STK} (hk:k.Ok) (hs:T.sees G S k.bm=ebm c) (h3:c=k.first-k.zero+k.cnt) (hn:k.no=60∨k.no=61):
  T.takes G S k=(0,k.no,{T with bad:=k.no}):=by
 have hbm:=hk.bm
 have hhi:=hk.hi
 have hr:=h.refusal (b:=k.bm) hd (by omega)
 have e:T.ptake G S k=(none,k.no,T):=by
  unfold TG.ptake
  rw [if_neg (fun h=>h hr),hs,h3,ebm_full (by omega)]
  rfl
 unfold TG.takes
 rw [e]
 dsimp only
 rw [h.spoilK hd hn]
theorem bad_state (hd:G.L.dead S=false) (he:T.ended=false) (_hb:T.bad≠0):T.state G S=T.bad:=by
 have e1:T.over G S=0:=by unfold TG.over;rw [hd,he];rfl
 unfold TG.state
 rw [e1]
 rfl
theorem bad_take (hd:G.L.dead S=false) (he:T.ended=false) (hb:T.bad≠0) (k:STK):T.takes G S k=(0,T.bad,T):=by
 have hs:=bad_state hd he hb
 have hr:T.refusal G S k.bm=T.bad:=by
  unfold TG.refusal
  rw [hs,if_pos hb]
 have e:T.ptake G S k=(none,T.bad,T):=by
  unfold TG.ptake
  rw [hr,if_pos hb]
 unfold TG.takes
 rw [e]
 dsimp only
 have e2:(T.spoil G S T.bad).2=T:=by
  unfold TG.spoil
  rw [hs,if_pos hb]
 rw [e2]
theorem fresh_sees {g:GEO} {L:LG} (hf:FreshG g S L) {b:Nat} (hb:3+g.l+b<g.s) (T:TG) (hT:CM.get T.puts b=none):T.sees ⟨lyG g,L, [],true⟩ S b=zs 512:=by
 unfold TG.sees SG.block
 rw [hT]
 show S.now (3+g.l+b)=zs 512
 exact hf.z _ (by omega) hb
theorem fresh_clear {g:GEO} {L:LG} (hf:FreshG g S L) (h4:3+g.l+2+g.n / 4+1≤g.s) (h1:g.s≤2048):((⟨[],0,false⟩:TG).pclear ⟨lyG g,L, [],true⟩ S)=(0,⟨[(0,ebm (2+g.n / 4))],0,false⟩)∧PF ⟨lyG g,L, [],true⟩ S ⟨[(0,ebm (2+g.n / 4))],0,false⟩ (2+g.n / 4) 0:=by
 have p0:PF ⟨lyG g,L, [],true⟩ S ⟨[],0,false⟩ 0 0:=⟨rfl,rfl,fresh_sees hf (b:=0) (by omega) _ rfl,fresh_sees hf (b:=1) (by omega) _ rfl,fun x hx=>by cases hx⟩
 have r0:=p0.refusal (b:=0) hf.dead (by show 0<g.s-(3+g.l);omega)
 have hne:ebm (2+g.n / 4)≠zs 512:=fun e=>by
  have h1:=ebm_bit (2+g.n / 4) (by omega) 0
  have h2:=ebm_bit 0 (by omega) 0
  rw [e] at h1
  rw [show ebm 0=zs 512 from rfl,h1] at h2
  simp at h2
 have e1:(⟨[],0,false⟩:TG).put ⟨lyG g,L, [],true⟩ S ((0:Nat):Int) (ebm (2+g.n / 4))=(0,⟨[(0,ebm (2+g.n / 4))],0,false⟩):=by
  unfold TG.put
  rw [if_neg (fun h=>h r0),if_neg (fun h=>h (ebm_len _)),Int.toNat_natCast,if_neg (by rw [p0.s0];exact hne),if_neg (fun h=>by have:=h.2;simp at this)]
  rfl
 have p1:PF ⟨lyG g,L, [],true⟩ S ⟨[(0,ebm (2+g.n / 4))],0,false⟩ (2+g.n / 4) 0:=by
  have:=(p0.seen (by unfold CM.Ok;exact List.Pairwise.nil) (2+g.n / 4)).1
  exact this
 have r1:=p1.refusal (b:=1) hf.dead (by show 1<g.s-(3+g.l);omega)
 have e2:(⟨[(0,ebm (2+g.n / 4))],0,false⟩:TG).put ⟨lyG g,L, [],true⟩ S ((1:Nat):Int) (ebm 0)=(0,⟨[(0,ebm (2+g.n / 4))],0,false⟩):=by
  unfold TG.put
  rw [if_neg (fun h=>h r1),if_neg (fun h=>h (ebm_len _)),Int.toNat_natCast,if_pos p1.s1.symm]
 refine⟨?_,p1⟩
 unfold TG.pclear
 show (if ((⟨[],0,false⟩:TG).put ⟨lyG g,L, [],true⟩ S ((0:Nat):Int) (ebm (2+g.n / 4))).1≠0 then _ else if (((⟨[],0,false⟩:TG).put ⟨lyG g,L, [],true⟩ S ((0:Nat):Int) (ebm (2+g.n / 4))).2.put ⟨lyG g,L, [],true⟩ S ((1:Nat):Int) (ebm 0)).1≠0 then _ else (0,(((⟨[],0,false⟩:TG).put ⟨lyG g,L, [],true⟩ S ((0:Nat):Int) (ebm (2+g.n / 4))).2.put ⟨lyG g,L, [],true⟩ S ((1:Nat):Int) (ebm 0)).2))=_
 rw [e1,if_neg (fun h=>h rfl),e2,if_neg (fun h=>h rfl)]
set_option maxRecDepth 20000 in
theorem takes6_any (h:TX w F p s cR q l m t n S G T) (hp:PoolAt w F a1 t n) (b:Bool):
  Calls Tryz.prog 12 #[.pointer (some ⟨a1,0,none⟩), .bool b] w fun e w'=>e= .returned (.tuple #[.int .i64 (T.takes G S (if b then nSt G.y else bSt G.y)).1, .int .i64 (T.takes G S (if b then nSt G.y else bSt G.y)).2.1])∧TX w' F p s (cR+2) q l m t n S G (T.takes G S (if b then nSt G.y else bSt G.y)).2.2∧Keeps (OwT F t n) w w':=by
 cases b
 ·have k1:=takeBlock_any h hp
  show Calls _ _ _ _ fun e w'=>e= .returned (.tuple #[.int .i64 (T.takes G S (bSt G.y)).1, .int .i64 (T.takes G S (bSt G.y)).2.1])∧TX w' F p s (cR+2) q l m t n S G (T.takes G S (bSt G.y)).2.2∧Keeps (OwT F t n) w w'
  generalize T.takes G S (bSt G.y)=R at*
  clear h hp
  go_enter Tryz.func12,Tryz.ntmps12
  go_wp2_with fail
  refine k1.mono ?_
  rintro e w1 ⟨rfl,hx,hk⟩
  have kn:=num6_any R.2.1 w1
  have HE:=Hid.mk (And.intro hx hk)
  clear k1 hx hk
  go_wp2_with fail
  refine kn.mono ?_
  rintro e w9 ⟨rfl,hw9⟩
  have hw9':=hw9.symm
  subst hw9'
  clear kn hw9
  go_wp2
  go_ret2
  exact⟨rfl,HE.out⟩
 ·have k1:=takeNode_any h hp
  show Calls _ _ _ _ fun e w'=>e= .returned (.tuple #[.int .i64 (T.takes G S (nSt G.y)).1, .int .i64 (T.takes G S (nSt G.y)).2.1])∧TX w' F p s (cR+2) q l m t n S G (T.takes G S (nSt G.y)).2.2∧Keeps (OwT F t n) w w'
  generalize T.takes G S (nSt G.y)=R at*
  clear h hp
  go_enter Tryz.func12,Tryz.ntmps12
  go_wp2_with fail
  refine k1.mono ?_
  rintro e w1 ⟨rfl,hx,hk⟩
  have kn:=num6_any R.2.1 w1
  have HE:=Hid.mk (And.intro hx hk)
  clear k1 hx hk
  go_wp2_with fail
  refine kn.mono ?_
  rintro e w9 ⟨rfl,hw9⟩
  have hw9':=hw9.symm
  subst hw9'
  clear kn hw9
  go_wp2
  go_ret2
  exact⟨rfl,HE.out⟩
end
end Go.Proofs.YtcakbbkbgfhfaaaGreat
end
section
namespace Go.Proofs.YtcakbbkbgfhfaaaGreat
open Go.RowKit Go.Maps
def FreshO (w w':World) (g:GEO) (e:Ending):Prop:=∃F kr p cR q l m t n a1 a2 k S L,e= .returned (.tuple #[.pointer (some ⟨kr,0,none⟩), .pointer (some ⟨a1,0,none⟩)])∧RP w' F kr p g.s cR q l m t n a1 a2 k S ⟨lyG g,L, [],true⟩ ⟨[(0,ebm (2+g.n / 4))],0,false⟩∧FreshG g S L∧(∀j,OwT F t n j→w.heap.size≤j)∧Below w.heap.size w w'
set_option maxRecDepth 20000 in
set_option maxHeartbeats 4000000 in
theorem fresh6_any (B L N:Int) (hB:I64 B) (hL:I64 L) (hN:I64 N) (w:World):Calls Tryz.prog 9 #[.agg #[.int .i64 B, .int .i64 L, .int .i64 N]] w fun e w'=>FreshO w w' (geoOf B L N) e:=by
 obtain⟨hG,h1,h2,h3,h5,h6,h4,h7⟩:=geoOf_ok B L N
 have hb0:=below_box w (.cells #[.int .i64 B, .int .i64 L, .int .i64 N] 23)
 have hbx:=heap_alloc_new w (.cells #[.int .i64 B, .int .i64 L, .int .i64 N] 23)
 have hz0:(w.alloc (.cells #[.int .i64 B, .int .i64 L, .int .i64 N] 23)).heap.size=w.heap.size+1:=by rw [World.size_alloc]
 have k1:=super6_any B L N hB hL hN (w.alloc (.cells #[.int .i64 B, .int .i64 L, .int .i64 N] 23))
 generalize geoOf B L N=g at*
 have HB0:=Hid.mk hb0
 have HG:=Hid.mk hG
 clear hb0 hbx hB hL hN hG
 go_enter Tryz.func9,Tryz.ntmps9
 go_wp2_with fail
 refine k1.mono ?_
 rintro e w1 ⟨rfl,hb1⟩
 have k2:=rig_any g HG.out w1
 have hz1:=hb1.size
 have HB1:=Hid.mk (HB0.out.trans (hb1.mono (by omega)))
 clear k1 hb1 HB0
 go_wp2_with fail
 refine k2.mono ?_
 rintro e w2 ⟨F,X,kr,p,cR,q,l,m,t,n,a1,a2,k,S,L',rfl,hkr,hrg,hfr,lF,lX,lq,ll,lm,lt,ln,_,_,hb2⟩
 have hrp:=hrg.rp
 have c5:w2.cell? ⟨kr,5,none⟩=some (.bool true):=cell_of_block hrp.b (j:=5) rfl
 have c2:w2.cell? ⟨kr,2,none⟩=some (.pointer (some ⟨a1,0,none⟩)):=cell_of_block hrp.b (j:=2) rfl
 have k3:=clear_any hrp.x hrp.p1
 obtain⟨e1,e2⟩:=fresh_clear hfr h4 h1
 rw [e1] at k3
 have HR:=Hid.mk hrp
 have hz2:=hb2.size
 have HB2:=Hid.mk (HB1.out.trans (hb2.mono (by omega)))
 have hlo:∀j,OwT F t n j→w.heap.size≤j:=fun j hj=>by
  rcases hj with hj|hj|hj
  ·have:=lF j hj;omega
  ·omega
  ·omega
 have HLo:=Hid.mk hlo
 have HFr:=Hid.mk hfr
 clear k2 hrg hrp hfr lF lX hb2 hlo e1 e2 HB1 HG
 go_wp2_with fail
 refine k3.mono ?_
 rintro e w3 ⟨rfl,hx3,hk3⟩
 have hr3:=HR.out.on hx3 hk3
 have d2:w3.cell? ⟨kr,2,none⟩=some (.pointer (some ⟨a1,0,none⟩)):=cell_of_block hr3.b (j:=2) rfl
 have d2d:w3.drew.cell? ⟨kr,2,none⟩=some (.pointer (some ⟨a1,0,none⟩)):=d2
 have kn:=num6_any 0 w3
 have hB3:=HB2.out.trans (hk3.below (fun j hj=>HLo.out j hj) (by omega))
 have HE:Hid (FreshO w w3.drew g (.returned (.tuple #[.pointer (some ⟨kr,0,none⟩), .pointer (some ⟨a1,0,none⟩)]))):=⟨F,kr,p,_,q,l,m,t,n,a1,a2,k,S,L',rfl,hr3.later (below_drew (Below.refl _ _)),HFr.out,HLo.out,below_drew hB3⟩
 clear k3 c5 c2 hx3 hk3 hr3 hB3 HR HB2
 go_wp2_with fail
 refine kn.mono ?_
 rintro e w9 ⟨rfl,hw9⟩
 have hw9':=hw9.symm
 subst hw9'
 clear kn hw9
 go_wp2_with fail
 go_region
 go_wp2
 go_ret2
 exact HE.out
def FillI (w0 wr:World) (g:GEO) (b:Bool) (F:Nat→Prop) (kr p q l m t n a1 a2 k:Nat) (S:DS) (L:LG) (c:Nat):Prop:=∃cR T i j,RP wr F kr p g.s cR q l m t n a1 a2 k S ⟨lyG g,L, [],true⟩ T∧PF ⟨lyG g,L, [],true⟩ S T i j∧(b=false→i=c)∧(b=true→j+1=c)∧(b=false→j=0)∧(b=true→i=2+g.n / 4)∧Below w0.heap.size w0 wr
end Go.Proofs.YtcakbbkbgfhfaaaGreat
end
section
namespace Go.Proofs.YtcakbbkbgfhfaaaGreat
open Go.RowKit Go.Maps
section
variable {w0 wr:World} {g:GEO} {b:Bool} {F:Nat→Prop} {kr p q l m t n a1 a2 k c:Nat} {S:DS} {L:LG}
theorem fill_take (h:FillI w0 wr g b F kr p q l m t n a1 a2 k S L c) (hf:FreshG g S L) (_h1:g.s≤2048) (h3:g.n≤1024) (h4:3+g.l+2+g.n / 4+1≤g.s) (hlo:∀j,OwT F t n j→w0.heap.size≤j) (hc1:(spanOf g b).1≤c) (hc2:c<(spanOf g b).2):
  Calls Tryz.prog 12 #[.pointer (some ⟨a1,0,none⟩), .bool b] wr fun e w'=>e= .returned (.tuple #[.int .i64 (c:Int), .int .i64 0])∧FillI w0 w' g b F kr p q l m t n a1 a2 k S L (c+1):=by
 obtain⟨cR,T,i,j,hrp,hpf,e1,e2,e3,e4,hbl⟩:=h
 have hok:=hrp.x.tx.ch.ok
 have k1:=takes6_any hrp.x hrp.p1 b
 have h2:2≤(⟨lyG g,L, [],true⟩:SG).y.blocks:=hrp.x.yk.b2
 cases b
 ·have hi:=e1 rfl
  have hj:=e3 rfl
  have c1:2+g.n / 4≤c:=hc1
  have c2:c<g.s-3-g.l:=hc2
  have ht:=hpf.takeK hf.dead h2 hok (k:=bSt (⟨lyG g,L, [],true⟩:SG).y) (bSt_ok hrp.x.yk) (c:=i) hpf.s0 (by show 2+g.n / 4-0≤i;omega) (by show i<2+g.n / 4-0+(g.s-(3+g.l)-(2+g.n / 4));omega)
  rw [if_neg (by decide),ht] at k1
  refine k1.mono ?_
  rintro e w' ⟨rfl,hx,hk⟩
  refine⟨by rw [hi];rfl,_,_,i+1,j,hrp.on hx hk,(hpf.seen hok (i+1)).1,fun _=>by omega,(fun h=>by cases h),e3,(fun h=>by cases h),hbl.trans (hk.below hlo hbl.size)⟩
 ·have hj:=e2 rfl
  have hi:=e4 rfl
  have c1:1≤c:=hc1
  have c2:c<g.n+1:=hc2
  have ht:=hpf.takeK hf.dead h2 hok (k:=nSt (⟨lyG g,L, [],true⟩:SG).y) (nSt_ok hrp.x.yk) (c:=j) hpf.s1 (by show 1-1≤j;omega) (by show j<1-1+g.n;omega)
  rw [if_pos rfl,ht] at k1
  refine k1.mono ?_
  rintro e w' ⟨rfl,hx,hk⟩
  refine⟨by rw [←hj];rfl,_,_,i,j+1,hrp.on hx hk,(hpf.seen hok (j+1)).2,(fun h=>by cases h),fun _=>by omega,(fun h=>by cases h),e4,hbl.trans (hk.below hlo hbl.size)⟩
def fullOf (b:Bool):Int:=if b then 61 else 60
def SpoilI (w0 wr:World) (g:GEO) (b:Bool) (F:Nat→Prop) (kr p q l m t n a1 a2 k:Nat) (S:DS) (L:LG):Prop:=∃cR T,RP wr F kr p g.s cR q l m t n a1 a2 k S ⟨lyG g,L, [],true⟩ T∧T.bad=fullOf b∧T.ended=false∧Below w0.heap.size w0 wr
theorem fill_full (h:FillI w0 wr g b F kr p q l m t n a1 a2 k S L c) (hf:FreshG g S L) (_h1:g.s≤2048) (h3:g.n≤1024) (h4:3+g.l+2+g.n / 4+1≤g.s) (hlo:∀j,OwT F t n j→w0.heap.size≤j) (hc:c=(spanOf g b).2):
  Calls Tryz.prog 12 #[.pointer (some ⟨a1,0,none⟩), .bool b] wr fun e w'=>e= .returned (.tuple #[.int .i64 0, .int .i64 (fullOf b)])∧SpoilI w0 w' g b F kr p q l m t n a1 a2 k S L:=by
 obtain⟨cR,T,i,j,hrp,hpf,e1,e2,e3,e4,hbl⟩:=h
 have k1:=takes6_any hrp.x hrp.p1 b
 have h2:2≤(⟨lyG g,L, [],true⟩:SG).y.blocks:=hrp.x.yk.b2
 cases b
 ·have hi:=e1 rfl
  have c2:c=g.s-3-g.l:=hc
  have ht:=hpf.takeNo hf.dead h2 (k:=bSt (⟨lyG g,L, [],true⟩:SG).y) (bSt_ok hrp.x.yk) (c:=i) hpf.s0 (by show i=2+g.n / 4-0+(g.s-(3+g.l)-(2+g.n / 4));omega) (.inl rfl)
  rw [if_neg (by decide),ht] at k1
  refine k1.mono ?_
  rintro e w' ⟨rfl,hx,hk⟩
  exact⟨rfl,_,_,hrp.on hx hk,rfl,hpf.en,hbl.trans (hk.below hlo hbl.size)⟩
 ·have hj:=e2 rfl
  have c2:c=g.n+1:=hc
  have ht:=hpf.takeNo hf.dead h2 (k:=nSt (⟨lyG g,L, [],true⟩:SG).y) (nSt_ok hrp.x.yk) (c:=j) hpf.s1 (by show j=1-1+g.n;omega) (.inr rfl)
  rw [if_pos rfl,ht] at k1
  refine k1.mono ?_
  rintro e w' ⟨rfl,hx,hk⟩
  exact⟨rfl,_,_,hrp.on hx hk,rfl,hpf.en,hbl.trans (hk.below hlo hbl.size)⟩
theorem spoil_cells (h:SpoilI w0 wr g b F kr p q l m t n a1 a2 k S L):wr.cell? ⟨kr,3,none⟩=some (.pointer (some ⟨a2,0,none⟩))∧wr.cell? ⟨a2,0,none⟩=some (.pointer (some ⟨t,0,none⟩)):=by
 obtain⟨cR,T,hrp,_⟩:=h
 exact⟨cell_of_block hrp.b (j:=3) rfl,hrp.p2.c0⟩
theorem full_ne (b:Bool):fullOf b≠0:=by cases b <;> decide
theorem spoil_state (h:SpoilI w0 wr g b F kr p q l m t n a1 a2 k S L) (hf:FreshG g S L):
  Calls Tryz.prog 13 #[.pointer (some ⟨t,0,none⟩)] wr fun e w'=>e= .returned (.int .i64 (fullOf b))∧SpoilI w0 w' g b F kr p q l m t n a1 a2 k S L:=by
 obtain⟨cR,T,hrp,hb,he,hbl⟩:=h
 have k1:=state_any hrp.x.st hrp.x.tx
 rw [bad_state hf.dead he (by rw [hb];exact full_ne b),hb] at k1
 refine k1.mono ?_
 rintro e w' ⟨rfl,hb1⟩
 exact⟨rfl,_,T,hrp.later hb1,hb,he,hbl.trans (hb1.mono hbl.size)⟩
theorem spoil_take (h:SpoilI w0 wr g b F kr p q l m t n a1 a2 k S L) (hf:FreshG g S L) (hlo:∀j,OwT F t n j→w0.heap.size≤j) (b':Bool):
  Calls Tryz.prog 12 #[.pointer (some ⟨a2,0,none⟩), .bool b'] wr fun e w'=>e= .returned (.tuple #[.int .i64 0, .int .i64 (fullOf b)])∧Below w0.heap.size w0 w':=by
 obtain⟨cR,T,hrp,hb,he,hbl⟩:=h
 have k1:=takes6_any hrp.x hrp.p2 b'
 rw [bad_take hf.dead he (by rw [hb];exact full_ne b),hb] at k1
 refine k1.mono ?_
 rintro e w' ⟨rfl,hx,hk⟩
 exact⟨rfl,hbl.trans (hk.below hlo hbl.size)⟩
end
theorem span_le {g:GEO} {b:Bool} (h1:g.s≤2048) (h3:g.n≤1024) (h4:3+g.l+2+g.n / 4+1≤g.s):(spanOf g b).1≤(spanOf g b).2∧(spanOf g b).2≤4096:=by
 cases b
 ·show 2+g.n / 4≤g.s-3-g.l∧g.s-3-g.l≤4096;omega
 ·show 1≤g.n+1∧g.n+1≤4096;omega
set_option maxRecDepth 20000 in
set_option maxHeartbeats 8000000 in
theorem poolFills_any (B L N:Int) (b:Bool) (hB:I64 B) (hL:I64 L) (hN:I64 N) (w:World):Calls Tryz.prog 3 #[.agg #[.int .i64 B, .int .i64 L, .int .i64 N], .bool b] w fun e w'=>e= .returned (.bool true)∧Below w.heap.size w w':=by
 obtain⟨hG,h1,h2,h3,h5,h6,h4,h7⟩:=geoOf_ok B L N
 have hb0:=below_box w (.cells #[.int .i64 B, .int .i64 L, .int .i64 N] 23)
 have hbx:=heap_alloc_new w (.cells #[.int .i64 B, .int .i64 L, .int .i64 N] 23)
 have hz0:(w.alloc (.cells #[.int .i64 B, .int .i64 L, .int .i64 N] 23)).heap.size=w.heap.size+1:=by rw [World.size_alloc]
 have k1:=fresh6_any B L N hB hL hN (w.alloc (.cells #[.int .i64 B, .int .i64 L, .int .i64 N] 23))
 have HSu:Hid (∀w,Calls Tryz.prog 11 #[.agg #[.int .i64 B, .int .i64 L, .int .i64 N]] w fun e w'=>e= .returned (supV (geoOf B L N))∧Below w.heap.size w w'):=fun w=>super6_any B L N hB hL hN w
 generalize geoOf B L N=g at*
 have HB0:=Hid.mk (And.intro hb0 hbx)
 clear hb0 hbx hB hL hN hG h7
 go_enter Tryz.func3,Tryz.ntmps3
 go_wp2_with fail
 refine k1.mono ?_
 rintro e w1 ⟨F,kr,p,cR,q,l,m,t,n,a1,a2,k,S,L',rfl,hrp,hfr,hlo1,hb1⟩
 have hz1:=hb1.size
 rw [hz0] at hz1 hlo1
 have hbx1:=(hb1.block _ (lt_there HB0.out.2)).trans HB0.out.2
 have hlo:∀j,OwT F t n j→w.heap.size≤j:=fun j hj=>by have:=hlo1 j hj;omega
 have hB1:=HB0.out.1.trans (hb1.mono (by omega))
 have g0:w1.cell? ⟨w.heap.size,0,none⟩=some (.int .i64 B):=cell_of_block hbx1 (j:=0) rfl
 have g1:w1.cell? ⟨w.heap.size,1,none⟩=some (.int .i64 L):=cell_of_block hbx1 (j:=1) rfl
 have g2:w1.cell? ⟨w.heap.size,2,none⟩=some (.int .i64 N):=cell_of_block hbx1 (j:=2) rfl
 have k2:=HSu.out w1
 obtain⟨_,hpf⟩:=fresh_clear hfr h4 h1
 have HI:=Hid.mk (And.intro hrp (And.intro hpf hB1))
 have HFr:=Hid.mk hfr
 have HLo:=Hid.mk hlo
 clear k1 hrp hfr hlo1 hb1 hbx1 hlo hB1 hpf HB0 HSu
 go_wp2_with fail
 refine k2.mono ?_
 rintro e w2 ⟨rfl,hb2⟩
 have k3:=span6_any g h1 h3 h6 h4 b w2
 have hz2:=hb2.size
 have HB2:=Hid.mk hb2
 obtain⟨s1,s2⟩:=span_le (b:=b) h1 h6 h4
 obtain⟨S1,hS1⟩:∃S1,S1=(spanOf g b).1:=⟨_,rfl⟩
 obtain⟨S2,hS2⟩:∃S2,S2=(spanOf g b).2:=⟨_,rfl⟩
 rw [←hS1,←hS2] at k3 s1
 rw [←hS2] at s2
 have HS1:=Hid.mk hS1
 have HS2:=Hid.mk hS2
 clear k2 hb2 g0 g1 g2 hS1 hS2
 go_wp2_with fail
 refine k3.mono ?_
 rintro e w3 ⟨rfl,hb3⟩
 have hz3:=hb3.size
 have HF:Hid (FillI w w3 g b F kr p q l m t n a1 a2 k S L' S1):=by
  have hb23:=HB2.out.trans (hb3.mono hz2)
  refine⟨_,_,_,_,HI.out.1.later hb23,HI.out.2.1,fun e=>?_,fun e=>?_,fun _=>rfl,fun _=>rfl,HI.out.2.2.trans (hb23.mono HI.out.2.2.size)⟩
  ·rw [HS1.out,e];rfl
  ·rw [HS1.out,e];rfl
 clear k3 hb3 HI HB2
 go_wp2
 go_loopw [9,10,11] (fun iv _ _ wr=>∃c:Nat,S1≤c∧c≤S2∧iv= .int .i64 (c:Int)∧FillI w wr g b F kr p q l m t n a1 a2 k S L' c) (fun iv _ _ _=>S2-(intOf iv).toNat)
 case atStart=>exact⟨S1,Nat.le_refl _,s1,rfl,HF.out⟩
 case round=>
  obtain⟨c,hc1,hc2,rfl,hfi⟩:=hrel
  clear HF
  by_cases hlt:c<S2
  ·have hlt':(c:Int)<(S2:Int):=by omega
   have k4:=fill_take hfi HFr.out h1 h6 h4 HLo.out (by rw [←HS1.out];exact hc1) (by rw [←HS2.out];exact hlt)
   clear hfi
   go_wp2_with fail
   refine k4.mono ?_
   rintro e w4 ⟨rfl,hfi4⟩
   have HFI:=Hid.mk hfi4
   clear k4 hfi4
   go_wp2
   go_roundw
   case rel=>exact⟨c+1,by omega,by omega,by go_num,HFI.out⟩
   case measure=>simp [intOf];omega
  ·have hlt':¬(c:Int)<(S2:Int):=by omega
   have k4:=fill_full hfi HFr.out h1 h6 h4 HLo.out (by rw [←HS2.out];omega)
   clear hfi
   cases b
   ·rw [show fullOf false=60 from rfl] at k4
    go_wp2_with fail
    refine k4.mono ?_
    rintro e w4 ⟨rfl,hsp⟩
    obtain⟨c3,c0⟩:=spoil_cells hsp
    have k5:=spoil_state hsp HFr.out
    clear k4 hsp
    go_wp2_with fail
    refine k5.mono ?_
    rintro e w5 ⟨rfl,hsp⟩
    obtain⟨d3,d0⟩:=spoil_cells hsp
    have k6:=spoil_take hsp HFr.out HLo.out true
    rw [show fullOf false=60 from rfl] at k6
    rw [show fullOf false=60 from rfl]
    clear k5 hsp c3 c0
    go_wp2_with fail
    refine k6.mono ?_
    rintro e w6 ⟨rfl,hb6⟩
    have kn:=num6_any 60 w6
    have HB6:=Hid.mk hb6
    clear k6 hb6 d3 d0
    go_wp2_with fail
    refine kn.mono ?_
    rintro e w9 ⟨rfl,hw9⟩
    have hw9':=hw9.symm
    subst hw9'
    clear kn hw9
    go_wp2
    go_ret
    exact⟨rfl,HB6.out⟩
   ·rw [show fullOf true=61 from rfl] at k4
    go_wp2_with fail
    refine k4.mono ?_
    rintro e w4 ⟨rfl,hsp⟩
    obtain⟨c3,c0⟩:=spoil_cells hsp
    have k5:=spoil_state hsp HFr.out
    clear k4 hsp
    go_wp2_with fail
    refine k5.mono ?_
    rintro e w5 ⟨rfl,hsp⟩
    obtain⟨d3,d0⟩:=spoil_cells hsp
    have k6:=spoil_take hsp HFr.out HLo.out false
    rw [show fullOf true=61 from rfl] at k6
    rw [show fullOf true=61 from rfl]
    clear k5 hsp c3 c0
    go_wp2_with fail
    refine k6.mono ?_
    rintro e w6 ⟨rfl,hb6⟩
    have kn:=num6_any 61 w6
    have HB6:=Hid.mk hb6
    clear k6 hb6 d3 d0
    go_wp2_with fail
    refine kn.mono ?_
    rintro e w9 ⟨rfl,hw9⟩
    have hw9':=hw9.symm
    subst hw9'
    clear kn hw9
    go_wp2
    go_ret
    exact⟨rfl,HB6.out⟩
end Go.Proofs.YtcakbbkbgfhfaaaGreat
end
section
namespace Go.Proofs.YtcakbbkbgfhfaaaGreat
open Go.ChangeShapes Go.WideShapes Go.ChangeAt Go.RowKit Go.Deep
theorem cellsGeo:Tryz.prog.cellsOf 23=3:=by kernel_rfl
theorem open_geo {H:Type} {enc:TypeId×Value→H} {W:World} {base:Nat} {spare:Nat→Bool} {held:Bool} {fuel:Nat} {cs:List Value} {y:DataW H×List MemPlace} (h:DataW.trod enc Tryz.prog W base spare held fuel 23 cs=some y):∃s l n,cs= [.int .i64 s, .int .i64 l, .int .i64 n]∧I64 s∧I64 l∧I64 n:=by
 obtain⟨v0,v1,v2,y0,y1,y2,k',rfl,_,g0,g1,g2⟩:=trod3 Tryz.underlying23 cellsGeo rfl rfl rfl cellsInt cellsInt cellsInt h
 obtain⟨n0,q0,_,w0⟩:=DataW.trod_int Tryz.underlying3 g0
 obtain⟨n1,q1,_,w1⟩:=DataW.trod_int Tryz.underlying3 g1
 obtain⟨n2,q2,_,w2⟩:=DataW.trod_int Tryz.underlying3 g2
 simp only [List.cons.injEq,and_true] at q0 q1 q2
 subst q0 q1 q2
 exact⟨n0,n1,n2,rfl,int_wf w0,int_wf w1,int_wf w2⟩
end Go.Proofs.YtcakbbkbgfhfaaaGreat
end
section
namespace Go.Proofs.YtcakbbkbgfhfaaaGreat
open Go.RowKit Go.Maps
theorem dropNum {k:STK} (hk:k.Ok) {x:Int} (h1:¬x<(k.first:Int)) (h2:¬(k.first:Int)+(k.cnt:Int)-1<x):x.toNat-k.zero<4096∧wrap64 (x-(k.zero:Int))=((x.toNat-k.zero:Nat):Int):=by
 have h3:=hk.lo
 have h4:=hk.hi
 have h5:=hk.z
 exact⟨by omega,(wrapS (by omega) (by omega)).trans (by omega)⟩
theorem ran_no {v:Value} (x:Int) (h:x≠0):Ran x v (.panicked (gave x)):=by unfold Ran;rw [if_neg h]
section
variable {w w':World} {F:Nat→Prop} {p s cR q l m t n a:Nat} {S:DS} {G:SG} {T:TG}
theorem refusal_ok (h:TX w F p s cR q l m t n S G T) (k:STK) (hk:k.Ok) (h0:T.state G S=0):T.refusal G S k.bm=0:=by
 have h1:=hk.bm
 have h2:=h.yk.b2
 unfold TG.refusal
 rw [if_neg (fun e=>e h0),if_neg (by omega)]
set_option maxRecDepth 20000 in
set_option maxHeartbeats 4000000 in
theorem pdrop_st (h:TX w F p s cR q l m t n S G T) (hp:PoolAt w F a t n) (k:STK) (x:Int) (h0:T.state G S≠0):
  Calls Tryz.prog 61 #[.pointer (some ⟨a,0,none⟩),stkV k, .int .i64 x] w fun e w'=>e= .panicked (gave (T.state G S))∧Below w.heap.size w w':=by
 have hB1:=below_box w (stkO k)
 have c0:=(hp.later hB1).c0
 have h1:=state_any (h.later hB1).st (h.later hB1).tx
 have h2:=fun w=>haltOn_no w (T.state G S) h0
 have HB:=Hid.mk hB1
 generalize T.state G S=R at*
 clear h hp hB1 h0
 unfold stkO at*
 go_enter Tryz.func61,Tryz.ntmps61
 go_wp2_with fail
 refine h1.mono ?_
 rintro e w2 ⟨rfl,hb2⟩
 clear h1
 go_wp2_with fail
 refine(h2 w2).mono ?_
 rintro e w3 ⟨rfl,rfl⟩
 exact⟨rfl,rfl,HB.out.trans (hb2.mono HB.out.size)⟩
set_option maxRecDepth 20000 in
set_option maxHeartbeats 4000000 in
theorem pdrop_lo (h:TX w F p s cR q l m t n S G T) (hp:PoolAt w F a t n) (k:STK) (x:Int) (h0:T.state G S=0) (hx:x<(k.first:Int)):
  Calls Tryz.prog 61 #[.pointer (some ⟨a,0,none⟩),stkV k, .int .i64 x] w fun e w'=>e= .panicked (gave 11)∧Below w.heap.size w w':=by
 have hB1:=below_box w (stkO k)
 have hbx:(w.alloc (stkO k)).heap[w.heap.size]? =some (.cells #[.int .i64 (k.bm:Int), .int .i64 (k.zero:Int), .int .i64 (k.first:Int), .int .i64 ((k.first:Int)+(k.cnt:Int)-1), .int .i64 k.no] 78 (0,0)):=heap_alloc_new _ _
 have c0:=(hp.later hB1).c0
 have h1:=state_any (h.later hB1).st (h.later hB1).tx
 rw [h0] at h1
 have HB:=Hid.mk hB1
 have HBX:=Hid.mk hbx
 clear h hp hB1 h0 hbx
 unfold stkO at*
 go_enter Tryz.func61,Tryz.ntmps61
 go_wp2_with fail
 refine h1.mono ?_
 rintro e w2 ⟨rfl,hb2⟩
 obtain⟨d0,d1,d2,d3,d4⟩:=box_stk ((hb2.block _ (lt_there HBX.out)).trans HBX.out)
 have HB2:Hid (Below w.heap.size w w2):=HB.out.trans (hb2.mono HB.out.size)
 clear h1 hb2
 go_wp2_with fail
 refine(haltOn_ok w2).mono ?_
 rintro e w3 ⟨rfl,hw3⟩
 subst hw3
 go_wp2_with fail
 refine(haltIf_t w3 11).mono ?_
 rintro e w4 ⟨rfl,rfl⟩
 exact⟨rfl,rfl,HB2.out⟩
set_option maxRecDepth 20000 in
set_option maxHeartbeats 4000000 in
theorem pdrop_hi (h:TX w F p s cR q l m t n S G T) (hp:PoolAt w F a t n) (k:STK) (x:Int) (h0:T.state G S=0) (hx:¬x<(k.first:Int)) (hy:(k.first:Int)+(k.cnt:Int)-1<x):
  Calls Tryz.prog 61 #[.pointer (some ⟨a,0,none⟩),stkV k, .int .i64 x] w fun e w'=>e= .panicked (gave 11)∧Below w.heap.size w w':=by
 have hB1:=below_box w (stkO k)
 have hbx:(w.alloc (stkO k)).heap[w.heap.size]? =some (.cells #[.int .i64 (k.bm:Int), .int .i64 (k.zero:Int), .int .i64 (k.first:Int), .int .i64 ((k.first:Int)+(k.cnt:Int)-1), .int .i64 k.no] 78 (0,0)):=heap_alloc_new _ _
 have c0:=(hp.later hB1).c0
 have h1:=state_any (h.later hB1).st (h.later hB1).tx
 rw [h0] at h1
 have HB:=Hid.mk hB1
 have HBX:=Hid.mk hbx
 clear h hp hB1 h0 hbx
 unfold stkO at*
 go_enter Tryz.func61,Tryz.ntmps61
 go_wp2_with fail
 refine h1.mono ?_
 rintro e w2 ⟨rfl,hb2⟩
 obtain⟨d0,d1,d2,d3,d4⟩:=box_stk ((hb2.block _ (lt_there HBX.out)).trans HBX.out)
 have HB2:Hid (Below w.heap.size w w2):=HB.out.trans (hb2.mono HB.out.size)
 clear h1 hb2
 go_wp2_with fail
 refine(haltOn_ok w2).mono ?_
 rintro e w3 ⟨rfl,hw3⟩
 subst hw3
 generalize (k.first:Int)+(k.cnt:Int)-1=L at*
 go_wp2_with fail
 refine(haltIf_t w3 11).mono ?_
 rintro e w4 ⟨rfl,rfl⟩
 exact⟨rfl,rfl,HB2.out⟩
set_option maxRecDepth 20000 in
set_option maxHeartbeats 8000000 in
theorem pdrop_in (h:TX w F p s cR q l m t n S G T) (hp:PoolAt w F a t n) (k:STK) (hk:k.Ok) (x:Int) (h0:T.state G S=0) (hx:¬x<(k.first:Int)) (hy:¬(k.first:Int)+(k.cnt:Int)-1<x) (y:Bool) (hyb:bitOf (T.sees G S k.bm) (x.toNat-k.zero)=y):
  Calls Tryz.prog 61 #[.pointer (some ⟨a,0,none⟩),stkV k, .int .i64 x] w fun e w'=>(y=false→e= .panicked (gave 62)∧TX w' F p s (cR+2) q l m t n S G T)∧(y=true→Ran (T.put G S k.bm (turnBit (T.sees G S k.bm) (x.toNat-k.zero))).1 (.tuple #[]) e∧TX w' F p s (cR+2) q l m t n S G (T.put G S k.bm (turnBit (T.sees G S k.bm) (x.toNat-k.zero))).2)∧Keeps (OwT F t n) w w':=by
 have hB1:=below_box w (stkO k)
 have hbx:(w.alloc (stkO k)).heap[w.heap.size]? =some (.cells #[.int .i64 (k.bm:Int), .int .i64 (k.zero:Int), .int .i64 (k.first:Int), .int .i64 ((k.first:Int)+(k.cnt:Int)-1), .int .i64 k.no] 78 (0,0)):=heap_alloc_new _ _
 have c0:=(hp.later hB1).c0
 have h1:=state_any (h.later hB1).st (h.later hB1).tx
 rw [h0] at h1
 have HG:Hid (∀w2,Below w.heap.size w w2→Calls Tryz.prog 54 #[.pointer (some ⟨a,0,none⟩),stkV k] w2 fun e w'=>∃g,e= .returned (.slice (some ⟨g,0,none⟩) 512 512)∧w2.heap.size≤g∧Blk w' 108 g (T.sees G S k.bm)∧TX w' F p s (cR+1) q l m t n S G T∧Keeps F w2 w'):=fun w2 hb=>bits_ok (h.later hb) (hp.later hb) k (refusal_ok h k hk h0)
 have hbm:k.bm<G.y.blocks:=by have:=hk.bm;have:=h.yk.b2;omega
 have hlen:=h.len k.bm hbm
 have hbyt:=h.bytes k.bm
 obtain⟨hb8,hwr⟩:=dropNum hk hx hy
 obtain⟨b,hb⟩:∃b,b=x.toNat-k.zero:=⟨_,rfl⟩
 rw [←hb] at hyb hb8 hwr
 rw [←hb]
 obtain⟨d,hd⟩:∃d,d=T.sees G S k.bm:=⟨_,rfl⟩
 rw [←hd] at hyb hlen hbyt HG
 rw [←hd]
 have HB:=Hid.mk hB1
 have HBX:=Hid.mk hbx
 have HP:=Hid.mk hp
 have HLo:=Hid.mk h.low
 have HXx:=Hid.mk h.st.d.lt
 have hpa:=hp.lt
 have HL:=Hid.mk (And.intro hlen hbyt)
 clear h hp hB1 h0 hbx hbm hb hd hlen hbyt
 unfold stkO at*
 go_enter Tryz.func61,Tryz.ntmps61
 go_wp2_with fail
 refine h1.mono ?_
 rintro e w2 ⟨rfl,hb2⟩
 have hbx2:=(hb2.block _ (lt_there HBX.out)).trans HBX.out
 obtain⟨d0,d1,d2,d3,d4⟩:=box_stk hbx2
 have HB2:Hid (Below w.heap.size w w2):=HB.out.trans (hb2.mono HB.out.size)
 have HBX2:=Hid.mk hbx2
 clear h1 hb2 hbx2 HB HBX
 go_wp2_with fail
 refine(haltOn_ok w2).mono ?_
 rintro e w3 ⟨rfl,hw3⟩
 subst hw3
 obtain⟨L,hL⟩:∃L:Int,L=(k.first:Int)+(k.cnt:Int)-1:=⟨_,rfl⟩
 have hg:=HG.out w3 HB2.out
 have hst:stkV k= .agg #[.int .i64 (k.bm:Int), .int .i64 (k.zero:Int), .int .i64 (k.first:Int), .int .i64 L, .int .i64 k.no]:=by rw [hL]
 rw [hst] at hg
 rw [←hL] at d3 hy
 have HLL:=Hid.mk hL
 clear hL hst
 have hdd:(decide (x<(k.first:Int)) || decide (L<x))=false:=by rw [decide_eq_false (by omega),decide_eq_false (by omega)];rfl
 go_wp2_with fail
 clear hdd
 refine(haltIf_f w3 11).mono ?_
 rintro e w4 ⟨rfl,hw4⟩
 subst hw4
 go_wp2_with fail
 refine hg.mono ?_
 rintro e w5 ⟨g,rfl,hgs,hblk,hx5,hk5⟩
 have hnF:¬F w.heap.size:=fun hf=>by have:=HXx.out _ hf;omega
 have hbx5:=(hk5.block _ (lt_there HBX2.out) hnF).trans HBX2.out
 obtain⟨c0',c1,c2,c3,c4⟩:=box_stk hbx5
 have hgw:w.heap.size<g:=by have:=lt_there HBX2.out;omega
 have HK5:Hid (Keeps F w w5):=(Keeps.of_below F HB2.out).trans hk5 (fun _ h=> .inl h)
 have HX5:=Hid.mk hx5
 have HBX5:=Hid.mk hbx5
 have h3:=ptaken_any (c:=512) hblk HL.out.1 HL.out.2 b hb8
 rw [hyb] at h3
 have HBK:=Hid.mk hblk
 clear hg hblk hx5 hk5 hbx5 hgs d0 d1 d2 d3 d4
 go_wp2_with fail
 refine h3.mono ?_
 rintro e w6 ⟨rfl,hw6⟩
 subst hw6
 clear h3
 cases y
 ·go_wp2_with fail
  refine(haltIf_t w6 62).mono ?_
  rintro e w7 ⟨rfl,rfl⟩
  exact⟨rfl,fun _=>⟨rfl,HX5.out.le (by omega)⟩,(fun h=>by cases h),HK5.out.mono (fun _ h=> .inl h)⟩
 ·go_wp2_with fail
  refine(haltIf_f w6 62).mono ?_
  rintro e w7 ⟨rfl,hw7⟩
  subst hw7
  have h4:=pturn_any (c:=512) HBK.out HL.out.1 HL.out.2 b hb8
  go_wp2_with fail
  refine h4.mono ?_
  rintro e w8 ⟨rfl,hb8',hk8⟩
  have hx8:TX w8 F p s (cR+1) q l m t n S G T:=HX5.out.side HLo.out hk8 (fun z hz=>by omega)
  have hp8:PoolAt w8 F a t n:=by
   have hp7:=HP.out.keep (HK5.out.mono (fun _ h=> .inl h))
   exact⟨(hk8.block a hp7.lt (by omega)).trans hp7.b,hp7.nf⟩
  have hbx8:=(hk8.block _ (lt_there HBX5.out) (by omega)).trans HBX5.out
  obtain⟨e0,e1,e2,e3,e4⟩:=box_stk hbx8
  have h5:=play_any (c:=512) hx8 hp8 k hb8' (turnBit_len.trans HL.out.1) (turnBit_bytes HL.out.2)
  have HK8:Hid (Keeps (OwT F t n) w w8):=(HK5.out.mono (fun _ h=> .inl h)).trans hk8 (fun z hz=> .inr (by omega))
  rw [←HLL.out] at e3
  have hst:stkV k= .agg #[.int .i64 (k.bm:Int), .int .i64 (k.zero:Int), .int .i64 (k.first:Int), .int .i64 L, .int .i64 k.no]:=by rw [HLL.out]
  rw [hst] at h5
  clear h4 hb8' hk8 hx8 hp8 hbx8 hst
  go_wp2_with fail
  refine h5.mono ?_
  rintro e w9 ⟨hran,hx9,hk9⟩
  have HE:Hid (TX w9 F p s (cR+2) q l m t n S G (T.put G S k.bm (turnBit d b)).2∧Keeps (OwT F t n) w w9):=⟨hx9,HK8.out.trans hk9 (fun _ h=> .inl h)⟩
  clear h5 hx9 hk9
  unfold Ran at hran
  by_cases hr:(T.put G S k.bm (turnBit d b)).1=0
  ·rw [if_pos hr] at hran
   subst hran
   have HR:=Hid.mk hr
   clear hr
   go_wp2
   go_end0
   exact⟨⟨by unfold Ran;rw [if_pos HR.out],HE.out.1⟩,HE.out.2⟩
  ·rw [if_neg hr] at hran
   subst hran
   exact⟨rfl,(fun h=>by cases h),fun _=>⟨by unfold Ran;rw [if_neg hr],HE.out.1⟩,HE.out.2⟩
theorem pdrop_any (h:TX w F p s cR q l m t n S G T) (hp:PoolAt w F a t n) (k:STK) (hk:k.Ok) (x:Int):
  Calls Tryz.prog 61 #[.pointer (some ⟨a,0,none⟩),stkV k, .int .i64 x] w fun e w'=>Ran (T.pdrop G S k x).1 (.tuple #[]) e∧TX w' F p s (cR+2) q l m t n S G (T.pdrop G S k x).2∧Keeps (OwT F t n) w w':=by
 by_cases h0:T.state G S=0
 ·by_cases hx:x<(k.first:Int)
  ·have e:T.pdrop G S k x=(11,T):=by unfold TG.pdrop;rw [if_neg (fun e=>e h0),if_pos (.inl hx)]
   rw [e]
   refine(pdrop_lo h hp k x h0 hx).mono ?_
   rintro e w' ⟨rfl,hb⟩
   exact⟨ran_no _ (by simp),(h.later hb).le (by omega),Keeps.of_below _ hb⟩
  ·by_cases hy:(k.first:Int)+(k.cnt:Int)-1<x
   ·have e:T.pdrop G S k x=(11,T):=by unfold TG.pdrop;rw [if_neg (fun e=>e h0),if_pos (.inr hy)]
    rw [e]
    refine(pdrop_hi h hp k x h0 hx hy).mono ?_
    rintro e w' ⟨rfl,hb⟩
    exact⟨ran_no _ (by simp),(h.later hb).le (by omega),Keeps.of_below _ hb⟩
   ·have hr:=refusal_ok h k hk h0
    have e:T.pdrop G S k x=if bitOf (T.sees G S k.bm) (x.toNat-k.zero)=false then (62,T) else T.put G S k.bm (turnBit (T.sees G S k.bm) (x.toNat-k.zero)):=by
     unfold TG.pdrop
     rw [if_neg (fun e=>e h0),if_neg (fun e=>e.elim hx hy),if_neg (fun e=>e hr)]
    rw [e]
    refine(pdrop_in h hp k hk x h0 hx hy _ rfl).mono ?_
    rintro e w' ⟨g1,g2,g3⟩
    by_cases hb:bitOf (T.sees G S k.bm) (x.toNat-k.zero)=false
    ·rw [if_pos hb]
     obtain⟨rfl,hx⟩:=g1 hb
     exact⟨ran_no _ (by simp),hx,g3⟩
    ·rw [if_neg hb]
     obtain⟨h1,h2⟩:=g2 (by simpa using hb)
     exact⟨h1,h2,g3⟩
 ·have e:T.pdrop G S k x=(T.state G S,T):=by unfold TG.pdrop;rw [if_pos h0]
  rw [e]
  refine(pdrop_st h hp k x h0).mono ?_
  rintro e w' ⟨rfl,hb⟩
  exact⟨by unfold Ran;rw [if_neg h0],(h.later hb).le (by omega),Keeps.of_below _ hb⟩
end
end Go.Proofs.YtcakbbkbgfhfaaaGreat
end
section
namespace Go.Proofs.YtcakbbkbgfhfaaaGreat
open Go.RowKit Go.Maps
def freeN (d:List Int) (i:Nat):Nat→Nat
 |0=>0
 |n+1=>freeN d i n+(if bitOf d (i+n)=false then 1 else 0)
theorem freeN_le (d:List Int) (i n:Nat):freeN d i n≤n:=by
 induction n with
 |zero=>exact Nat.le_refl _
 |succ n ih=>unfold freeN;split <;> omega
def TG.pleft (T:TG) (G:SG) (S:DS) (k:STK):Nat:=freeN (T.sees G S k.bm) (k.first-k.zero) k.cnt
theorem addOne {c:Nat} (h:c≤4096):wrap64 ((c:Int)+1)=((c+1:Nat):Int):=(wrapS (by omega) (by omega)).trans (by omega)
section
variable {w w':World} {F:Nat→Prop} {p s cR q l m t n a:Nat} {S:DS} {G:SG} {T:TG}
set_option maxRecDepth 20000 in
set_option maxHeartbeats 4000000 in
theorem pleft_no (h:TX w F p s cR q l m t n S G T) (hp:PoolAt w F a t n) (k:STK) (h0:T.refusal G S k.bm≠0):
  Calls Tryz.prog 31 #[.pointer (some ⟨a,0,none⟩),stkV k] w fun e w'=>e= .panicked (gave (T.refusal G S k.bm))∧TX w' F p s (cR+1) q l m t n S G T∧Keeps F w w':=by
 have hB1:=below_box w (stkO k)
 have hbx:(w.alloc (stkO k)).heap[w.heap.size]? =some (.cells #[.int .i64 (k.bm:Int), .int .i64 (k.zero:Int), .int .i64 (k.first:Int), .int .i64 ((k.first:Int)+(k.cnt:Int)-1), .int .i64 k.no] 78 (0,0)):=heap_alloc_new _ _
 have h1:=bits_no (h.later hB1) (hp.later hB1) k h0
 have HB:=Hid.mk hB1
 generalize T.refusal G S k.bm=R at*
 clear h hp hB1 hbx h0
 unfold stkO at*
 go_enter Tryz.func31,Tryz.ntmps31
 go_wp2_with fail
 refine h1.mono ?_
 rintro e w2 ⟨rfl,hx2,hk2⟩
 exact⟨rfl,rfl,hx2,(Keeps.of_below F HB.out).trans hk2 (fun _ h=> .inl h)⟩
set_option maxRecDepth 20000 in
set_option maxHeartbeats 8000000 in
theorem pleft_ok (h:TX w F p s cR q l m t n S G T) (hp:PoolAt w F a t n) (k:STK) (hk:k.Ok) (h0:T.refusal G S k.bm=0):
  Calls Tryz.prog 31 #[.pointer (some ⟨a,0,none⟩),stkV k] w fun e w'=>e= .returned (.int .i64 (T.pleft G S k:Int))∧TX w' F p s (cR+1) q l m t n S G T∧Keeps F w w':=by
 have hB1:=below_box w (stkO k)
 have hbx:(w.alloc (stkO k)).heap[w.heap.size]? =some (.cells #[.int .i64 (k.bm:Int), .int .i64 (k.zero:Int), .int .i64 (k.first:Int), .int .i64 ((k.first:Int)+(k.cnt:Int)-1), .int .i64 k.no] 78 (0,0)):=heap_alloc_new _ _
 have h1:=bits_ok (h.later hB1) (hp.later hB1) k h0
 have hbm:k.bm<G.y.blocks:=by have:=hk.bm;have:=h.yk.b2;omega
 have hlen:=h.len k.bm hbm
 have hbyt:=h.bytes k.bm
 have hR:T.pleft G S k=freeN (T.sees G S k.bm) (k.first-k.zero) k.cnt:=rfl
 obtain⟨R,hRR⟩:∃R,R=T.pleft G S k:=⟨_,rfl⟩
 rw [←hRR] at hR
 rw [←hRR]
 obtain⟨d,hd⟩:∃d,d=T.sees G S k.bm:=⟨_,rfl⟩
 rw [←hd] at hlen hbyt hR h1
 have HR:=Hid.mk hR
 have HB:=Hid.mk hB1
 have HBX:=Hid.mk hbx
 have HXx:=Hid.mk h.st.d.lt
 clear h hp hB1 hbx h0 hR hRR hd hbm
 unfold stkO at*
 go_enter Tryz.func31,Tryz.ntmps31
 go_wp2_with fail
 refine h1.mono ?_
 rintro e w2 ⟨g,rfl,hg,hblk,hx2,hk2⟩
 have hnF:¬F w.heap.size:=fun hf=>by have:=HXx.out _ hf;omega
 have hbx2:=(hk2.block _ (lt_there HBX.out) hnF).trans HBX.out
 obtain⟨c0,c1,c2,c3,c4⟩:=box_stk hbx2
 have HW:Hid (Blk w2 108 g d∧TX w2 F p s (cR+1) q l m t n S G T∧Keeps F w w2):=⟨hblk,hx2,(Keeps.of_below F HB.out).trans hk2 (fun _ h=> .inl h)⟩
 obtain⟨L,hL⟩:∃L:Int,L=(k.first:Int)+(k.cnt:Int)-1:=⟨_,rfl⟩
 rw [←hL] at c3
 have HL:=Hid.mk hL
 clear h1 hblk hx2 hk2 hbx2 hL hg
 go_wp2
 go_loopw [6,7] (fun fv iv wr=>∃j:Nat,j≤k.cnt∧iv= .int .i64 ((k.first+j:Nat):Int)∧fv= .int .i64 (freeN d (k.first-k.zero) j:Int)∧wr=w2) (fun _ iv _=>k.first+k.cnt-(intOf iv).toNat)
 case atStart=>exact⟨0,Nat.zero_le _,by simp,rfl,rfl⟩
 case round=>
  obtain⟨j,hj,rfl,rfl,hwr⟩:=hrel
  subst hwr
  obtain⟨N,N1,hN,hN1,f1,f2,f3,f4⟩:=stkFacts hk hj
  rw [←hN]
  rw [←HL.out] at f1 f2
  have HN:=Hid.mk (And.intro hN hN1)
  clear hN hN1
  by_cases hlt:j<k.cnt
  ·have g1:=f1 hlt
   have hb8:k.first-k.zero+j<4096:=by have:=hk.hi;omega
   have h3:=ptaken_any (c:=512) HW.out.1 hlen hbyt (k.first-k.zero+j) hb8
   have hls:freeN d (k.first-k.zero) (j+1)=freeN d (k.first-k.zero) j+(if bitOf d (k.first-k.zero+j)=false then 1 else 0):=rfl
   have hf0:freeN d (k.first-k.zero) j≤4096:=by have:=freeN_le d (k.first-k.zero) j;omega
   obtain⟨b,hb⟩:∃b,b=k.first-k.zero+j:=⟨_,rfl⟩
   rw [←hb] at h3 f3 hls
   obtain⟨y,hy⟩:∃y,y=bitOf d b:=⟨_,rfl⟩
   rw [←hy] at h3 hls
   have h5:=addOne hf0
   have HLs:=Hid.mk hls
   clear f1 f2 hy hb hls hb8 hf0
   generalize freeN d (k.first-k.zero) j=fr at*
   cases y
   ·go_wp2_with fail
    refine h3.mono ?_
    rintro e w3 ⟨rfl,hw3⟩
    subst hw3
    clear h3
    go_wp2
    go_roundw
    case rel=>exact⟨j+1,by omega,by rw [f4,HN.out.2],by rw [h5,HLs.out];rfl,trivial⟩
    case measure=>
     rw [f4]
     exact stkMeas HN.out.1 HN.out.2 hlt
   ·go_wp2_with fail
    refine h3.mono ?_
    rintro e w3 ⟨rfl,hw3⟩
    subst hw3
    clear h3
    go_wp2
    go_roundw
    case rel=>exact⟨j+1,by omega,by rw [f4,HN.out.2],by rw [HLs.out];rfl,trivial⟩
    case measure=>
     rw [f4]
     exact stkMeas HN.out.1 HN.out.2 hlt
  ·have g2:=f2 hlt
   have hjc:j=k.cnt:=by omega
   rw [hjc]
   rw [←HR.out]
   clear hjc f1 f2
   go_wp2
   go_ret
   exact⟨rfl,HW.out.2⟩
end
end Go.Proofs.YtcakbbkbgfhfaaaGreat
end
