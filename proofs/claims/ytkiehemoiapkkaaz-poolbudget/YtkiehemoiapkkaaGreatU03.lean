import Derived.Test.YtkiehemoiapkkaaGreatU02
import Derived.Test.YtkiehemoiapkkaaGreatW26
section
namespace Go.Proofs.YtkiehemoiapkkaaGreat
open Go.RowKit Go.Maps
theorem bls_set {l:List Bool} {i:Nat} (hi:i<l.length) (x:Bool) (j:Nat):(l.set i x).getD j false=if j=i then x else l.getD j false:=by
 simp only [List.getD_eq_getElem?_getD,List.getElem?_set]
 by_cases h:i=j
 ·subst h
  rw [if_pos rfl,if_pos hi,if_pos rfl]
  rfl
 ·rw [if_neg h,if_neg (fun e=>h e.symm)]
theorem bm_turn {l:List Bool} (hl:l.length=4096) {i:Nat} (hi:i<4096):turnBit (bmOf l) i=bmOf (l.set i (!l.getD i false)):=by
 refine bits_same (turnBit_bytes (bm_bytes l)) (bm_bytes _) (by rw [turnBit_len,bmOf_len,bmOf_len]) (fun j hj=>?_)
 rw [turnBit_len,bmOf_len] at hj
 rw [turnBit_bit (bm_bytes l) (by rw [bmOf_len];omega),bm_bit l hi,bm_bit l (by omega:j<4096),bm_bit (l.set i (!l.getD i false)) (by omega:j<4096),bls_set (by omega)]
theorem CM.keys_nodup {ms:CM} (h:CM.Ok ms):(CM.keys ms).Nodup:=by
 unfold CM.keys
 rw [List.nodup_iff_pairwise_ne,List.pairwise_map]
 exact h.imp (fun hlt=>Nat.ne_of_lt hlt)
theorem CM.mem_keys {ms:CM} (h:CM.Ok ms) {b:Nat}:b∈CM.keys ms↔(CM.get ms b).isSome=true:=by
 unfold CM.keys
 rw [List.mem_map]
 constructor
 ·rintro ⟨⟨k,c⟩,hm,rfl⟩
  rw [CM.get_of_mem h hm]
  rfl
 ·intro hs
  cases hg:CM.get ms b with
  |none=>rw [hg] at hs;cases hs
  |some c=>exact⟨(b,c),CM.get_mem hg,rfl⟩
structure LK (G:SG) (S:DS) (T:TG) (M:MP):Prop where
 bad:T.bad=M.bad
 en:T.ended=false
 op:M.opn=true
 dd:G.L.dead S=M.dead
 pk:∀b,b∈M.put↔(CM.get T.puts b).isSome=true
 nd:M.put.Nodup
 le:M.put.length≤16
 s0:T.sees G S 0=bmOf M.nb
 s1:T.sees G S 1=bmOf M.nn
 so:∀b,2≤b→b<G.y.blocks→M.raw[b]? =some (T.sees G S b)
 mb:M.blocks=G.y.blocks
 mn:M.nodes=G.y.nodes
 rl:M.raw.length=G.y.blocks
 l0:M.nb.length=4096
 l1:M.nn.length=4096
 o0:G.block S 0=bmOf M.ob
 o1:G.block S 1=bmOf M.on
 oo:∀b,2≤b→b<G.y.blocks→M.oraw[b]? =some (G.block S b)
 orl:M.oraw.length=G.y.blocks
 k0:M.ob.length=4096
 k1:M.on.length=4096
section
variable {S:DS} {G:SG} {T T':TG} {M M':MP}
theorem LK.state (h:LK G S T M):T.state G S=M.state:=by
 unfold TG.state TG.over MP.state
 rw [h.dd,h.en,h.op,h.bad]
 cases M.dead <;> rfl
theorem LK.plen (h:LK G S T M):M.put.length≤16:=h.le
theorem LK.len (h:LK G S T M) (hok:CM.Ok T.puts):T.puts.length=M.put.length:=by
 have hp:(CM.keys T.puts).Perm M.put:=(List.perm_ext_iff_of_nodup (CM.keys_nodup hok) h.nd).2 (fun b=>(CM.mem_keys hok).trans (h.pk b).symm)
 have:=hp.length_eq
 unfold CM.keys at this
 rwa [List.length_map] at this
theorem LK.puts (h:LK G S T M) (hok:CM.Ok T.puts) (h0:M.state=0) {b:Nat} (hb:b<G.y.blocks) {d:List Int} (hl:d.length=512) (hne:d≠T.sees G S b):
    (T.put G S (b:Int) d=(50,{T with bad:=50})∧M.puts b=(50,{M with bad:=50}))∨
  ∃r,T.put G S (b:Int) d=(0,{T with puts:=CM.put T.puts b d})∧M.puts b=(0,{M with put:=r})∧(∀x,x∈r↔(CM.get (CM.put T.puts b d) x).isSome=true)∧r.Nodup∧r.length≤16:=by
 have hr:T.refusal G S (b:Int)=0:=refusal_in (h.state.trans h0) hb
 have hle:=h.len hok
 have hk:∀x,(CM.get (CM.put T.puts b d) x).isSome=true↔x=b∨x∈M.put:=fun x=>by
  rw [CM.get_put _ _ _ _ hok,h.pk]
  by_cases e:x=b
  ·rw [if_pos e];simp [e]
  ·rw [if_neg e];simp [e]
 unfold TG.put MP.puts
 rw [if_neg (fun h=>h hr),if_neg (fun h=>h hl),Int.toNat_natCast,if_neg hne]
 by_cases hm:b∈M.put
 ·right
  have hs:(CM.get T.puts b).isSome=true:=(h.pk b).1 hm
  rw [if_neg (fun e=>by rw [hs] at e;exact absurd e.1 (by decide)),if_pos hm]
  refine⟨M.put,rfl,rfl,fun x=>?_,h.nd,h.le⟩
  rw [hk]
  exact⟨.inr,fun e=>by rcases e with rfl|e;exact hm;exact e⟩
 ·have hs:(CM.get T.puts b).isSome=false:=by
   cases e:(CM.get T.puts b).isSome
   ·rfl
   ·exact absurd ((h.pk b).2 e) hm
  by_cases h16:M.put.length=16
  ·left
   rw [if_pos ⟨hs,hle.trans h16⟩,if_neg hm,if_pos h16]
   exact⟨rfl,rfl⟩
  ·right
   rw [if_neg (fun e=>h16 (hle.symm.trans e.2)),if_neg hm,if_neg h16]
   refine⟨_,rfl,rfl,fun x=>?_,?_,?_⟩
   ·rw [hk,List.mem_append,List.mem_singleton]
    exact⟨fun e=>e.symm,fun e=>e.symm⟩
   ·rw [List.nodup_append]
    exact⟨h.nd,by simp,fun a ha c hc e=>by
     simp at hc
     subst hc
     subst e
     exact hm ha⟩
   ·have:=h.le
    rw [List.length_append]
    simp
    omega
theorem LK.spoilt (h:LK G S T M) (x:Int):LK G S {T with bad:=x} {M with bad:=x}:=
   ⟨rfl,h.en,h.op,h.dd,h.pk,h.nd,h.le,h.s0,h.s1,h.so,h.mb,h.mn,h.rl,h.l0,h.l1,h.o0,h.o1,h.oo,h.orl,h.k0,h.k1⟩
theorem LK.lay (h:LK G S T M) (h0:M.state=0) (hy:YOk G.y) (hok:CM.Ok T.puts) {b:Nat} (hb:b<2) {l:List Bool} (hl:l.length=4096):∃z T' M',T.put G S (b:Int) (bmOf l)=(z,T')∧M.lays b l=(z,M')∧LK G S T' M'∧CM.Ok T'.puts∧(z=0→M'.state=0)∧(z≠0→M'.state=z):=by
 have hb01:b=0∨b=1:=by omega
 have hnow:T.sees G S b=bmOf (if b=1 then M.nn else M.nb):=by
  rcases hb01 with rfl|rfl
  ·exact h.s0
  ·exact h.s1
 have hnl:(if b=1 then M.nn else M.nb).length=4096:=by split;exact h.l1;exact h.l0
 have hbb:b<G.y.blocks:=by have:=hy.b2;omega
 by_cases he:(if b=1 then M.nn else M.nb)=l
 ·refine⟨0,T,M,?_,?_,h,hok,fun _=>h0,fun e=>absurd rfl e⟩
  ·have hr:T.refusal G S (b:Int)=0:=refusal_in (h.state.trans h0) hbb
   unfold TG.put
   rw [if_neg (fun h=>h hr),if_neg (fun h=>h (bmOf_len l)),Int.toNat_natCast,if_pos (by rw [hnow,he])]
  ·unfold MP.lays
   rw [if_pos he]
 ·have hne:bmOf l≠T.sees G S b:=fun e=>he (bm_inj hnl hl (by rw [←hnow,e]))
  have hdd:M.dead=false:=by
   unfold MP.state at h0
   cases hd:M.dead
   ·rfl
   ·rw [hd] at h0;cases h0
  rcases h.puts hok h0 hbb (bmOf_len l) hne with ⟨p1,p2⟩|⟨r,p1,p2,p3,p4,p5⟩
  ·refine⟨50,_,_,p1,?_,h.spoilt 50,hok,fun e=>absurd e (by decide),fun _=>?_⟩
   ·unfold MP.lays
    rw [if_neg he,p2]
    rfl
   ·unfold MP.state
    dsimp only
    rw [hdd,h.op]
    rfl
  ·have hg:=fun i=>sees_put (G:=G) (S:=S) (T:=T) (bm:=b) (d:=bmOf l) hok i
   refine⟨0,_,if b=1 then {M with put:=r,nn:=l} else {M with put:=r,nb:=l},p1,?_,?_,CM.put_ok hok _ _,fun _=>?_,fun e=>absurd rfl e⟩
   ·unfold MP.lays
    rw [if_neg he,p2]
    rfl
   ·rcases hb01 with rfl|rfl
    ·rw [if_neg (by decide)]
     exact⟨h.bad,h.en,h.op,h.dd,p3,p4,p5,by rw [hg,if_pos rfl],by rw [hg,if_neg (by decide)];exact h.s1,fun c h1 h2=>by rw [hg,if_neg (by omega)];exact h.so c h1 h2,h.mb,h.mn,h.rl,hl,h.l1,h.o0,h.o1,h.oo,h.orl,h.k0,h.k1⟩
    ·rw [if_pos rfl]
     exact⟨h.bad,h.en,h.op,h.dd,p3,p4,p5,by rw [hg,if_neg (by decide)];exact h.s0,by rw [hg,if_pos rfl],fun c h1 h2=>by rw [hg,if_neg (by omega)];exact h.so c h1 h2,h.mb,h.mn,h.rl,h.l0,hl,h.o0,h.o1,h.oo,h.orl,h.k0,h.k1⟩
   ·split
    ·exact h0
    ·exact h0
theorem spoil_no {x:Int} (h0:T.state G S≠0):(T.spoil G S x).2=T:=by unfold TG.spoil;rw [if_pos h0]
theorem refusal_st {b:Int} (h0:T.state G S≠0):T.refusal G S b=T.state G S:=by unfold TG.refusal;rw [if_pos h0]
theorem put_st {b:Int} {d:List Int} (h0:T.state G S≠0):T.put G S b d=(T.state G S,T):=by
 unfold TG.put
 rw [refusal_st h0,if_pos h0]
theorem clear_st (h0:T.state G S≠0):T.pclear G S=(T.state G S,T):=by
 unfold TG.pclear
 rw [put_st h0]
 dsimp only
 rw [if_pos h0,spoil_no h0]
theorem LK.clear (h:LK G S T M) (hy:YOk G.y) (hdt:G.y.data=2+G.y.nodes / 4) (hok:CM.Ok T.puts):∃z T' M',T.pclear G S=(z,T')∧M.clear=(z,M')∧LK G S T' M':=by
 by_cases h0:M.state=0
 ·have hn:=hy.nd
  have e1:ebm (bSt G.y).first=bmOf (lowB (2+M.nodes / 4)):=by
   rw [h.mn,←hdt]
   show ebm G.y.data=_
   have:=hy.dy
   have:=hy.bl
   exact(bm_low (by omega)).symm
  have e2:ebm 0=bmOf noBits:=bmOf_none.symm
  obtain⟨z1,T1,M1,a1,a2,a3,a4,a5,a6⟩:=h.lay h0 hy hok (b:=0) (by omega) (lowB_len (2+M.nodes / 4))
  have a1':T.put G S ((bSt G.y).bm:Int) (ebm (bSt G.y).first)=(z1,T1):=by rw [e1];exact a1
  have hm:M.clear=if z1≠0 then (z1,M1) else M1.lays 1 noBits:=by
   unfold MP.clear
   rw [if_neg (fun e=>e h0),a2]
  have hp:T.pclear G S=if z1≠0 then (z1,(T1.spoil G S z1).2) else if (T1.put G S ((nSt G.y).bm:Int) (ebm 0)).1≠0 then ((T1.put G S ((nSt G.y).bm:Int) (ebm 0)).1,((T1.put G S ((nSt G.y).bm:Int) (ebm 0)).2.spoil G S (T1.put G S ((nSt G.y).bm:Int) (ebm 0)).1).2) else (0,(T1.put G S ((nSt G.y).bm:Int) (ebm 0)).2):=by
   unfold TG.pclear
   rw [a1']
  by_cases hz:z1=0
  ·subst hz
   obtain⟨z2,T2,M2,b1,b2,b3,b4,b5,b6⟩:=a3.lay (a5 rfl) hy a4 (b:=1) (by omega) (l:=noBits) List.length_replicate
   have b1':T1.put G S ((nSt G.y).bm:Int) (ebm 0)=(z2,T2):=by rw [e2];exact b1
   rw [if_neg (fun e=>e rfl),b1'] at hp
   rw [if_neg (fun e=>e rfl),b2] at hm
   dsimp only at hp
   by_cases hz2:z2=0
   ·subst hz2
    rw [if_neg (fun e=>e rfl)] at hp
    exact⟨0,T2,M2,hp,hm,b3⟩
   ·rw [if_pos hz2,spoil_no (by rw [b3.state,b6 hz2];exact hz2)] at hp
    exact⟨z2,T2,M2,hp,hm,b3⟩
  ·rw [if_pos hz,spoil_no (by rw [a3.state,a6 hz];exact hz)] at hp
   rw [if_pos hz] at hm
   exact⟨z1,T1,M1,hp,hm,a3⟩
 ·refine⟨M.state,T,M,?_,?_,h⟩
  ·rw [clear_st (by rw [h.state];exact h0),h.state]
  ·unfold MP.clear
   rw [if_pos h0]
theorem LK.wmap (h:LK G S T M) (hy:YOk G.y) (hok:CM.Ok T.puts) {b:Nat} (hb:b<2) {d:List Int} (hby:Bytes d) (hl:d.length=512):∃z T' M',T.put G S (b:Int) d=(z,T')∧M.wmap b d=(z,M')∧LK G S T' M':=by
 unfold MP.wmap
 by_cases h0:M.state=0
 ·obtain⟨z1,T1,M1,a1,a2,a3,_⟩:=h.lay h0 hy hok hb (blOf_len d)
  rw [bm_of_bl hby hl] at a1
  exact⟨z1,T1,M1,a1,by rw [if_neg (fun e=>e h0)];exact a2,a3⟩
 ·exact⟨M.state,T,M,by rw [put_st (by rw [h.state];exact h0),h.state],by rw [if_pos h0],h⟩
theorem LK.flip0 (h:LK G S T M) (h0:M.state=0) (hy:YOk G.y) (hok:CM.Ok T.puts) {i:Nat} (hi:i<4096):
  ∃z T' M',T.put G S (0:Nat) (turnBit (T.sees G S 0) i)=(z,T')∧(if (M.puts 0).1≠0 then M.puts 0 else (0,{(M.puts 0).2 with nb:=M.nb.set i (!M.nb.getD i false)}))=(z,M')∧LK G S T' M'∧(z≠0→T'.state G S=z)∧(M.puts 0).1=z:=by
 have hne:M.nb≠M.nb.set i (!M.nb.getD i false):=fun e=>by
  have h9:=bls_set (l:=M.nb) (i:=i) (by have:=h.l0;omega) (!M.nb.getD i false) i
  rw [←e,if_pos rfl] at h9
  cases hx:M.nb.getD i false <;> rw [hx] at h9 <;> cases h9
 obtain⟨z,T1,M1,a1,a2,a3,a4,a5,a6⟩:=h.lay h0 hy hok (b:=0) (by omega) (l:=M.nb.set i (!M.nb.getD i false)) (by rw [List.length_set];exact h.l0)
 unfold MP.lays at a2
 rw [if_neg (show¬(if (0:Nat)=1 then M.nn else M.nb)=M.nb.set i (!M.nb.getD i false) from hne)] at a2
 refine⟨z,T1,M1,by rw [h.s0,bm_turn h.l0 hi];exact a1,a2,a3,fun e=>(a3.state).trans (a6 e),?_⟩
 split at a2
 ·exact congrArg Prod.fst a2
 ·rename_i e
  have h9:=congrArg Prod.fst a2
  exact(Decidable.of_not_not e).trans h9
theorem LK.flip1 (h:LK G S T M) (h0:M.state=0) (hy:YOk G.y) (hok:CM.Ok T.puts) {i:Nat} (hi:i<4096):
  ∃z T' M',T.put G S (1:Nat) (turnBit (T.sees G S 1) i)=(z,T')∧(if (M.puts 1).1≠0 then M.puts 1 else (0,{(M.puts 1).2 with nn:=M.nn.set i (!M.nn.getD i false)}))=(z,M')∧LK G S T' M'∧(z≠0→T'.state G S=z)∧(M.puts 1).1=z:=by
 have hne:M.nn≠M.nn.set i (!M.nn.getD i false):=fun e=>by
  have h9:=bls_set (l:=M.nn) (i:=i) (by have:=h.l1;omega) (!M.nn.getD i false) i
  rw [←e,if_pos rfl] at h9
  cases hx:M.nn.getD i false <;> rw [hx] at h9 <;> cases h9
 obtain⟨z,T1,M1,a1,a2,a3,a4,a5,a6⟩:=h.lay h0 hy hok (b:=1) (by omega) (l:=M.nn.set i (!M.nn.getD i false)) (by rw [List.length_set];exact h.l1)
 unfold MP.lays at a2
 rw [if_neg (show¬(if (1:Nat)=1 then M.nn else M.nb)=M.nn.set i (!M.nn.getD i false) from hne)] at a2
 refine⟨z,T1,M1,by rw [h.s1,bm_turn h.l1 hi];exact a1,a2,a3,fun e=>(a3.state).trans (a6 e),?_⟩
 split at a2
 ·exact congrArg Prod.fst a2
 ·rename_i e
  have h9:=congrArg Prod.fst a2
  exact(Decidable.of_not_not e).trans h9
theorem takes_st (k:STK) (h0:T.state G S≠0):T.takes G S k=(0,T.state G S,T):=by
 have e1:T.ptake G S k=(none,T.state G S,T):=by unfold TG.ptake;rw [refusal_st h0,if_pos h0]
 unfold TG.takes
 rw [e1]
 show (0,T.state G S,(T.spoil G S (T.state G S)).2)=_
 rw [spoil_no h0]
theorem takes_none {k:STK} (hr:T.refusal G S k.bm=0) (h0:T.state G S=0) (hk:k.no=60∨k.no=61) (hl:lowBit (T.sees G S k.bm) (k.first-k.zero) k.cnt=none):T.takes G S k=(0,k.no,{T with bad:=k.no}):=by
 have e1:T.ptake G S k=(none,k.no,T):=by unfold TG.ptake;rw [if_neg (fun e=>e hr),hl];rfl
 unfold TG.takes
 rw [e1]
 show (0,k.no,(T.spoil G S k.no).2)=_
 unfold TG.spoil
 rw [if_neg (fun e=>e h0),if_pos (by omega)]
theorem takes_some {k:STK} {b:Nat} (hr:T.refusal G S k.bm=0) (hl:lowBit (T.sees G S k.bm) (k.first-k.zero) k.cnt=some b) (hp:T.put G S k.bm (turnBit (T.sees G S k.bm) b)=(0,T')):T.takes G S k=(((b+k.zero:Nat):Int),0,T'):=by
 have e1:T.ptake G S k=(some (b+k.zero),0,T'):=by
  unfold TG.ptake
  rw [if_neg (fun e=>e hr),hl]
  unfold TG.ptook
  dsimp only
  rw [hp,if_pos rfl]
 unfold TG.takes
 rw [e1]
theorem takes_full {k:STK} {b:Nat} {z:Int} (hr:T.refusal G S k.bm=0) (hl:lowBit (T.sees G S k.bm) (k.first-k.zero) k.cnt=some b) (hp:T.put G S k.bm (turnBit (T.sees G S k.bm) b)=(z,T')) (hz:z≠0) (hs:T'.state G S=z):T.takes G S k=(0,z,T'):=by
 have e1:T.ptake G S k=(none,z,T'):=by
  unfold TG.ptake
  rw [if_neg (fun e=>e hr),hl]
  unfold TG.ptook
  dsimp only
  rw [hp,if_neg hz]
 unfold TG.takes
 rw [e1]
 show (0,z,(T'.spoil G S z).2)=_
 rw [spoil_no (by rw [hs];exact hz)]
theorem LK.take0 (h:LK G S T M) (hy:YOk G.y) (hdt:G.y.data=2+G.y.nodes / 4) (hok:CM.Ok T.puts):∃T',T.takes G S (bSt G.y)=(M.take0.1,M.take0.2.1,T')∧LK G S T' M.take0.2.2:=by
 have hs:=h.state
 by_cases h0:M.state=0
 ·rw [h0] at hs
  have hr:T.refusal G S ((bSt G.y).bm:Int)=0:=refusal_in hs (by have:=hy.b2;show 0<_;omega)
  have hl:lowBit (T.sees G S (bSt G.y).bm) ((bSt G.y).first-(bSt G.y).zero) (bSt G.y).cnt=lowBit (bmOf M.nb) (2+M.nodes / 4) (M.blocks-(2+M.nodes / 4)):=by
   rw [h.mn,h.mb,←hdt,←h.s0]
   rfl
  unfold MP.take0
  rw [if_neg (fun e=>e h0)]
  generalize hR:lowBit (bmOf M.nb) (2+M.nodes / 4) (M.blocks-(2+M.nodes / 4))=R at*
  cases R with
  |none=>exact⟨_,takes_none hr hs (.inl rfl) hl,h.spoilt 60⟩
  |some i=>
   obtain⟨q1,q2,q3,_⟩:=lowBit_some hR
   have hi:i<4096:=by have:=hy.bl;have:=h.mb;omega
   rw [bm_bit _ hi] at q3
   obtain⟨z,T1,M1,f1,f2,f3,f4,f5⟩:=h.flip0 h0 hy hok hi
   rw [q3] at f2
   dsimp only
   by_cases hz:z=0
   ·subst hz
    rw [if_neg (fun e=>e f5)] at f2⊢
    have f6:M1={(M.puts 0).2 with nb:=M.nb.set i true}:=(congrArg Prod.snd f2).symm
    rw [f6] at f3
    exact⟨T1,takes_some hr hl f1,f3⟩
   ·rw [if_pos (by rw [f5];exact hz)] at f2⊢
    rw [f2]
    exact⟨T1,takes_full hr hl f1 hz (f4 hz),f3⟩
 ·refine⟨T,?_,?_⟩
  ·rw [takes_st _ (by rw [hs];exact h0),hs]
   unfold MP.take0
   rw [if_pos h0]
  ·unfold MP.take0
   rw [if_pos h0]
   exact h
theorem LK.take1 (h:LK G S T M) (hy:YOk G.y) (hok:CM.Ok T.puts):∃T',T.takes G S (nSt G.y)=(M.take1.1,M.take1.2.1,T')∧LK G S T' M.take1.2.2:=by
 have hs:=h.state
 by_cases h0:M.state=0
 ·rw [h0] at hs
  have hr:T.refusal G S ((nSt G.y).bm:Int)=0:=refusal_in hs (by have:=hy.b2;show 1<_;omega)
  have hl:lowBit (T.sees G S (nSt G.y).bm) ((nSt G.y).first-(nSt G.y).zero) (nSt G.y).cnt=lowBit (bmOf M.nn) 0 M.nodes:=by
   rw [h.mn,←h.s1]
   rfl
  unfold MP.take1
  rw [if_neg (fun e=>e h0)]
  generalize hR:lowBit (bmOf M.nn) 0 M.nodes=R at*
  cases R with
  |none=>exact⟨_,takes_none hr hs (.inr rfl) hl,h.spoilt 61⟩
  |some i=>
   obtain⟨q1,q2,q3,_⟩:=lowBit_some hR
   have hi:i<4096:=by have:=hy.nd;have:=h.mn;omega
   rw [bm_bit _ hi] at q3
   obtain⟨z,T1,M1,f1,f2,f3,f4,f5⟩:=h.flip1 h0 hy hok hi
   rw [q3] at f2
   dsimp only
   by_cases hz:z=0
   ·subst hz
    rw [if_neg (fun e=>e f5)] at f2⊢
    have f6:M1={(M.puts 1).2 with nn:=M.nn.set i true}:=(congrArg Prod.snd f2).symm
    rw [f6] at f3
    exact⟨T1,takes_some hr hl f1,f3⟩
   ·rw [if_pos (by rw [f5];exact hz)] at f2⊢
    rw [f2]
    exact⟨T1,takes_full hr hl f1 hz (f4 hz),f3⟩
 ·refine⟨T,?_,?_⟩
  ·rw [takes_st _ (by rw [hs];exact h0),hs]
   unfold MP.take1
   rw [if_pos h0]
  ·unfold MP.take1
   rw [if_pos h0]
   exact h
theorem LK.geo (h:LK G S T M) (hy:YOk G.y) (hdt:G.y.data=2+G.y.nodes / 4):2+M.nodes / 4≤M.blocks∧M.blocks≤4096∧M.nodes≤4096:=by
 have h1:M.blocks=G.y.blocks:=h.mb
 have h2:M.nodes=G.y.nodes:=h.mn
 have:=hy.dy
 have:=hy.bl
 have:=hy.nd
 rw [h1,h2]
 omega
theorem caught_st {x:Int} (h0:T.state G S≠0):T.caught G S x=T:=by
 unfold TG.caught
 split
 ·rfl
 ·exact spoil_no h0
theorem caught_in {x:Int} (h0:T.state G S=0) (hx:x=0∨x=11∨x=62):T.caught G S x=T:=by
 unfold TG.caught
 split
 ·rfl
 ·unfold TG.spoil
  rw [if_neg (fun e=>e h0),if_neg (by omega)]
theorem caught_z {z:Int} (h:z≠0→T.state G S=z):T.caught G S z=T:=by
 by_cases hz:z=0
 ·unfold TG.caught;rw [if_pos hz]
 ·exact caught_st (by rw [h hz];exact hz)
section
variable {k:STK} {x:Int}
theorem drop_st (h0:T.state G S≠0):T.pdrop G S k x=(T.state G S,T):=by unfold TG.pdrop;rw [if_pos h0]
theorem drop_out (h0:T.state G S=0) (hx:x<(k.first:Int)∨(k.first:Int)+k.cnt-1<x):T.pdrop G S k x=(11,T):=by unfold TG.pdrop;rw [if_neg (fun e=>e h0),if_pos hx]
theorem drop_free (h0:T.state G S=0) (hx:¬(x<(k.first:Int)∨(k.first:Int)+k.cnt-1<x)) (hr:T.refusal G S k.bm=0) (hb:bitOf (T.sees G S k.bm) (x.toNat-k.zero)=false):T.pdrop G S k x=(62,T):=by unfold TG.pdrop;rw [if_neg (fun e=>e h0),if_neg hx,if_neg (fun e=>e hr),if_pos hb]
theorem drop_put (h0:T.state G S=0) (hx:¬(x<(k.first:Int)∨(k.first:Int)+k.cnt-1<x)) (hr:T.refusal G S k.bm=0) (hb:bitOf (T.sees G S k.bm) (x.toNat-k.zero)=true):T.pdrop G S k x=T.put G S k.bm (turnBit (T.sees G S k.bm) (x.toNat-k.zero)):=by unfold TG.pdrop;rw [if_neg (fun e=>e h0),if_neg hx,if_neg (fun e=>e hr),if_neg (by rw [hb];decide)]
end
theorem LK.drop0 (h:LK G S T M) (hy:YOk G.y) (hdt:G.y.data=2+G.y.nodes / 4) (hok:CM.Ok T.puts) (x:Int):(T.pdrop G S (bSt G.y) x).1=(M.drop0 x).1∧LK G S ((T.pdrop G S (bSt G.y) x).2.caught G S (T.pdrop G S (bSt G.y) x).1) (M.drop0 x).2:=by
 have hs:=h.state
 by_cases h0:M.state=0
 ·rw [h0] at hs
  have hr:T.refusal G S ((bSt G.y).bm:Int)=0:=refusal_in hs (by have:=hy.b2;show 0<_;omega)
  have hio:(x<((bSt G.y).first:Int)∨((bSt G.y).first:Int)+(bSt G.y).cnt-1<x)↔(x<((2+M.nodes / 4:Nat):Int)∨(M.blocks:Int)≤x):=by
   have:=hy.dy;have:=h.mb;have:=h.mn;show (x<(G.y.data:Int)∨(G.y.data:Int)+(G.y.blocks-G.y.data:Nat)-1<x)↔_;omega
  unfold MP.drop0
  rw [if_neg (fun e=>e h0)]
  by_cases ho:x<((2+M.nodes / 4:Nat):Int)∨(M.blocks:Int)≤x
  ·rw [if_pos ho,drop_out hs (hio.mpr ho)]
   exact⟨rfl,by rw [caught_in hs (by omega)];exact h⟩
  ·have hi:(x).toNat<4096:=by have:=hy.bl;have:=h.mb;omega
   have hsee:bitOf (T.sees G S (bSt G.y).bm) (x.toNat-(bSt G.y).zero)=M.nb.getD (x).toNat false:=by
    show bitOf (T.sees G S 0) (x.toNat-0)=_
    rw [h.s0,Nat.sub_zero,bm_bit _ hi]
   rw [if_neg ho]
   cases hb:M.nb.getD (x).toNat false
   ·rw [if_pos rfl,drop_free hs (fun e=>ho (hio.mp e)) hr (by rw [hsee,hb])]
    exact⟨rfl,by rw [caught_in hs (by omega)];exact h⟩
   ·obtain⟨z,T1,M1,f1,f2,f3,f4,f5⟩:=h.flip0 h0 hy hok hi
    rw [hb] at f2
    have e1:T.pdrop G S (bSt G.y) x=(z,T1):=by
     rw [drop_put hs (fun e=>ho (hio.mp e)) hr (by rw [hsee,hb])]
     show T.put G S (0:Nat) (turnBit (T.sees G S 0) (x.toNat-0))=_
     rw [Nat.sub_zero]
     exact f1
    rw [if_neg (by decide),e1]
    refine⟨(congrArg Prod.fst f2).symm,?_⟩
    dsimp only
    rw [caught_z f4,show (if (M.puts 0).1≠0 then M.puts 0 else (0,{(M.puts 0).2 with nb:=M.nb.set x.toNat false})).2=M1 from congrArg Prod.snd f2]
    exact f3
 ·have hs0:T.state G S≠0:=by rw [hs];exact h0
  rw [drop_st hs0]
  unfold MP.drop0
  rw [if_pos h0]
  exact⟨hs,by rw [caught_st hs0];exact h⟩
theorem LK.drop1 (h:LK G S T M) (hy:YOk G.y) (hok:CM.Ok T.puts) (x:Int):(T.pdrop G S (nSt G.y) x).1=(M.drop1 x).1∧LK G S ((T.pdrop G S (nSt G.y) x).2.caught G S (T.pdrop G S (nSt G.y) x).1) (M.drop1 x).2:=by
 have hs:=h.state
 by_cases h0:M.state=0
 ·rw [h0] at hs
  have hr:T.refusal G S ((nSt G.y).bm:Int)=0:=refusal_in hs (by have:=hy.b2;show 1<_;omega)
  have hio:(x<((nSt G.y).first:Int)∨((nSt G.y).first:Int)+(nSt G.y).cnt-1<x)↔(x<1∨(M.nodes:Int)<x):=by
   have:=h.mn;show (x<((1:Nat):Int)∨((1:Nat):Int)+(G.y.nodes:Int)-1<x)↔_;omega
  unfold MP.drop1
  rw [if_neg (fun e=>e h0)]
  by_cases ho:x<1∨(M.nodes:Int)<x
  ·rw [if_pos ho,drop_out hs (hio.mpr ho)]
   exact⟨rfl,by rw [caught_in hs (by omega)];exact h⟩
  ·have hi:(x-1).toNat<4096:=by have:=hy.nd;have:=h.mn;omega
   have hsee:bitOf (T.sees G S (nSt G.y).bm) (x.toNat-(nSt G.y).zero)=M.nn.getD (x-1).toNat false:=by
    show bitOf (T.sees G S 1) (x.toNat-1)=_
    rw [h.s1,show x.toNat-1=(x-1).toNat by omega,bm_bit _ hi]
   rw [if_neg ho]
   cases hb:M.nn.getD (x-1).toNat false
   ·rw [if_pos rfl,drop_free hs (fun e=>ho (hio.mp e)) hr (by rw [hsee,hb])]
    exact⟨rfl,by rw [caught_in hs (by omega)];exact h⟩
   ·obtain⟨z,T1,M1,f1,f2,f3,f4,f5⟩:=h.flip1 h0 hy hok hi
    rw [hb] at f2
    have e1:T.pdrop G S (nSt G.y) x=(z,T1):=by
     rw [drop_put hs (fun e=>ho (hio.mp e)) hr (by rw [hsee,hb])]
     show T.put G S (1:Nat) (turnBit (T.sees G S 1) (x.toNat-1))=_
     rw [show x.toNat-1=(x-1).toNat by omega]
     exact f1
    rw [if_neg (by decide),e1]
    refine⟨(congrArg Prod.fst f2).symm,?_⟩
    dsimp only
    rw [caught_z f4,show (if (M.puts 1).1≠0 then M.puts 1 else (0,{(M.puts 1).2 with nn:=M.nn.set (x-1).toNat false})).2=M1 from congrArg Prod.snd f2]
    exact f3
 ·have hs0:T.state G S≠0:=by rw [hs];exact h0
  rw [drop_st hs0]
  unfold MP.drop1
  rw [if_pos h0]
  exact⟨hs,by rw [caught_st hs0];exact h⟩
end
end Go.Proofs.YtkiehemoiapkkaaGreat
end
section
namespace Go.Proofs.YtkiehemoiapkkaaGreat
open Go.RowKit Go.Maps
def StpL (w w':World) (F X:Nat→Prop) (kr p s q l m t n a1 a2 k:Nat) (S:DS) (G:SG) (e:Ending):Prop:=
 e= .returned (.bool true)∧∃X' T' M' c',RgW w' F X' kr p s c' q l m t n a1 a2 k S G T' M'∧LK G S T' M'∧Keeps (fun j=>OwT F t n j∨X j) w w'∧(∀j,X' j→X j∨(w.heap.size≤j∧j<w'.heap.size))
section
variable {w w' w0 w1 w2:World} {F X Y Z:Nat→Prop} {kr p s cR c' q l m t n a1 a2 k pa:Nat} {S:DS} {G:SG} {T T':TG} {M M':MP} {N:Int} {who two:Bool} {da:Option Addr} {dn dc:Nat} {e:Ending}
theorem StpL.of_later (h:StpL w0 w' F X kr p s q l m t n a1 a2 k S G e) (hb:Below w.heap.size w w0):StpL w w' F X kr p s q l m t n a1 a2 k S G e:=by
 obtain⟨he,X',T',M',c',h1,h2,h3,h4⟩:=h
 have z:=hb.size
 exact⟨he,X',T',M',c',h1,h2,(Keeps.of_below _ hb).trans h3 (fun _ h=> .inl h),fun j hj=>(h4 j hj).imp (fun e=>e) (fun e=>⟨by have:=e.1;omega,e.2⟩)⟩
theorem RgW.both (h1:RgW w1 F X kr p s c' q l m t n a1 a2 k S G T' M) (hB:Below w.heap.size w w0) (hk1:Keeps (fun j=>OwT F t n j∨X j) w0 w1) (hc:LK G S T' M') (hm2:MX w2 (more X w1 w2) k M') (hk2:Keeps X w1 w2):StpL w w2 F X kr p s q l m t n a1 a2 k S G (.returned (.bool true)):=by
 have z0:=hB.size
 have z1:=hk1.size
 refine⟨rfl,_,T',M',_,h1.after (h1.x.apart hk2 (fun j hj=>?_)) hm2 (hk2.mono (fun _ h=> .inr h)) (fun _ h=>h),hc,((Keeps.of_below _ hB).trans hk1 (fun _ h=> .inl h)).trans (hk2.mono (fun _ h=> .inr h)) (fun _ h=> .inl h),fun j hj=>hj.imp (fun e=>e) (fun e=>⟨by have:=e.1;omega,e.2⟩)⟩
 have h9:=h1.xa j hj
 exact⟨h9.1,h9.2.1,h9.2.2.1,h9.2.2.2.1,h9.2.2.2.2.1,h9.2.2.2.2.2.1⟩
set_option maxRecDepth 20000 in
set_option maxHeartbeats 4000000 in
theorem calls2_any (h:RgW w F X kr p s cR q l m t n a1 a2 k S G T M) (hc:LK G S T M) (hdt:G.y.data=2+G.y.nodes / 4) (hpa:PoolAt w F pa t n):
  Calls Tryz.prog 36 #[.pointer (some ⟨kr,0,none⟩), .pointer (some ⟨pa,0,none⟩),stpV 2 N who two da dn dc] w fun e w'=>StpL w w' F X kr p s q l m t n a1 a2 k S G e:=by
 obtain⟨T1,q1,hc1⟩:=hc.take0 h.x.yk hdt h.x.tx.ch.ok
 obtain⟨gg1,gg2,gg3⟩:=hc.geo h.x.yk hdt
 have hpl:=hc.plen
 have hB0:=below_box w (stpC 2 N who two da dn dc)
 have hbx:=heap_alloc_new w (stpC 2 N who two da dn dc)
 have g0:(w.alloc (stpC 2 N who two da dn dc)).cell? ⟨w.heap.size,0,none⟩=some (.int .i64 2):=cell_of_block hbx (j:=0) rfl
 have h0:=h.later hB0
 have kc:=takeBlock_any h0.x (hpa.later hB0)
 rw [q1] at kc
 have KM:Hid (∀w1,MX w1 X k M→Calls Tryz.prog 70 #[.pointer (some ⟨k,0,none⟩)] w1 fun e w'=>MO3 w1 w' X k M.take0 e):=fun w1 hm=>mtake0_any hm (by omega) gg1 gg2 gg3
 have H0:=Hid.mk (And.intro h0 hB0)
 have HC:=Hid.mk hc1
 clear h hc hdt hpa q1 hc1 hB0 hbx h0 gg1 gg2 gg3 hpl
 generalize M.take0=R at*
 obtain⟨rx,ry,RM⟩:=R
 dsimp only at kc
 unfold MO3 at KM
 dsimp only at KM HC
 go_enter Tryz.func36,Tryz.ntmps36
 go_wp2_with fail
 refine kc.mono ?_
 rintro e w1 ⟨rfl,hx1,hk1⟩
 have hk1':Keeps (fun j=>OwT F t n j∨X j) (w.alloc (stpC 2 N who two da dn dc)) w1:=hk1.mono (fun _ h=> .inl h)
 have h1:=H0.out.1.after (Y:=X) hx1 (H0.out.1.mm.apart hk1 (fun j e hx=>H0.out.1.offX j hx e)) hk1' (fun _ h=> .inl h)
 have ce:w1.cell? ⟨kr,4,none⟩=some (.pointer (some ⟨k,0,none⟩)):=cell_of_block h1.b (j:=4) rfl
 have km:=KM.out w1 h1.mm
 have H1:=Hid.mk (And.intro h1 hk1')
 clear kc hx1 hk1 hk1' h1 g0 KM
 go_wp2_with fail
 refine km.mono ?_
 rintro e w2 ⟨rfl,hm2,hk2⟩
 have HE:Hid (StpL w w2 F X kr p s q l m t n a1 a2 k S G (.returned (.bool true))):=H1.out.1.both H0.out.2 H1.out.2 HC.out hm2 hk2
 have kn:=num6_any ry w2
 clear km hm2 hk2 H1 ce HC H0
 go_wp2_with fail
 refine kn.mono ?_
 rintro e wx ⟨rfl,hwx⟩
 have hwx':=hwx.symm
 subst hwx'
 clear hwx kn
 go_wp2
 go_ret
 exact HE.out
set_option maxRecDepth 20000 in
set_option maxHeartbeats 4000000 in
theorem calls4_any (h:RgW w F X kr p s cR q l m t n a1 a2 k S G T M) (hc:LK G S T M) (hdt:G.y.data=2+G.y.nodes / 4) (hpa:PoolAt w F pa t n):
  Calls Tryz.prog 36 #[.pointer (some ⟨kr,0,none⟩), .pointer (some ⟨pa,0,none⟩),stpV 4 N who two da dn dc] w fun e w'=>StpL w w' F X kr p s q l m t n a1 a2 k S G e:=by
 obtain⟨T1,q1,hc1⟩:=hc.take1 h.x.yk h.x.tx.ch.ok
 obtain⟨gg1,gg2,gg3⟩:=hc.geo h.x.yk hdt
 have hpl:=hc.plen
 have hB0:=below_box w (stpC 4 N who two da dn dc)
 have hbx:=heap_alloc_new w (stpC 4 N who two da dn dc)
 have g0:(w.alloc (stpC 4 N who two da dn dc)).cell? ⟨w.heap.size,0,none⟩=some (.int .i64 4):=cell_of_block hbx (j:=0) rfl
 have h0:=h.later hB0
 have kc:=takeNode_any h0.x (hpa.later hB0)
 rw [q1] at kc
 have KM:Hid (∀w1,MX w1 X k M→Calls Tryz.prog 74 #[.pointer (some ⟨k,0,none⟩)] w1 fun e w'=>MO3 w1 w' X k M.take1 e):=fun w1 hm=>mtake1_any hm (by omega) gg1 gg2 gg3
 have H0:=Hid.mk (And.intro h0 hB0)
 have HC:=Hid.mk hc1
 clear h hc hdt hpa q1 hc1 hB0 hbx h0 gg1 gg2 gg3 hpl
 generalize M.take1=R at*
 obtain⟨rx,ry,RM⟩:=R
 dsimp only at kc
 unfold MO3 at KM
 dsimp only at KM HC
 go_enter Tryz.func36,Tryz.ntmps36
 go_wp2_with fail
 refine kc.mono ?_
 rintro e w1 ⟨rfl,hx1,hk1⟩
 have hk1':Keeps (fun j=>OwT F t n j∨X j) (w.alloc (stpC 4 N who two da dn dc)) w1:=hk1.mono (fun _ h=> .inl h)
 have h1:=H0.out.1.after (Y:=X) hx1 (H0.out.1.mm.apart hk1 (fun j e hx=>H0.out.1.offX j hx e)) hk1' (fun _ h=> .inl h)
 have ce:w1.cell? ⟨kr,4,none⟩=some (.pointer (some ⟨k,0,none⟩)):=cell_of_block h1.b (j:=4) rfl
 have km:=KM.out w1 h1.mm
 have H1:=Hid.mk (And.intro h1 hk1')
 clear kc hx1 hk1 hk1' h1 g0 KM
 go_wp2_with fail
 refine km.mono ?_
 rintro e w2 ⟨rfl,hm2,hk2⟩
 have HE:Hid (StpL w w2 F X kr p s q l m t n a1 a2 k S G (.returned (.bool true))):=H1.out.1.both H0.out.2 H1.out.2 HC.out hm2 hk2
 have kn:=num6_any ry w2
 clear km hm2 hk2 H1 ce HC H0
 go_wp2_with fail
 refine kn.mono ?_
 rintro e wx ⟨rfl,hwx⟩
 have hwx':=hwx.symm
 subst hwx'
 clear hwx kn
 go_wp2
 go_ret
 exact HE.out
end
end Go.Proofs.YtkiehemoiapkkaaGreat
end
section
namespace Go.Proofs.YtkiehemoiapkkaaGreat
open Go.RowKit Go.Maps
section
variable {w w' w0 w1 w2:World} {F X Y Z:Nat→Prop} {kr p s cR q l m t n a1 a2 k pa:Nat} {S:DS} {G:SG} {T:TG} {M:MP} {N:Int} {who two:Bool} {da:Option Addr} {dn dc:Nat}
set_option maxRecDepth 20000 in
set_option maxHeartbeats 4000000 in
theorem calls3_any (h:RgW w F X kr p s cR q l m t n a1 a2 k S G T M) (hc:LK G S T M) (hdt:G.y.data=2+G.y.nodes / 4) (hpa:PoolAt w F pa t n):
  Calls Tryz.prog 36 #[.pointer (some ⟨kr,0,none⟩), .pointer (some ⟨pa,0,none⟩),stpV 3 N who two da dn dc] w fun e w'=>StpL w w' F X kr p s q l m t n a1 a2 k S G e:=by
 obtain⟨q1,hc1⟩:=hc.drop0 h.x.yk hdt h.x.tx.ch.ok N
 obtain⟨gg1,gg2,gg3⟩:=hc.geo h.x.yk hdt
 have hpl:=hc.plen
 have hB0:=below_box w (stpC 3 N who two da dn dc)
 have hbx:=heap_alloc_new w (stpC 3 N who two da dn dc)
 have g0:(w.alloc (stpC 3 N who two da dn dc)).cell? ⟨w.heap.size,0,none⟩=some (.int .i64 3):=cell_of_block hbx (j:=0) rfl
 have g1:(w.alloc (stpC 3 N who two da dn dc)).cell? ⟨w.heap.size,1,none⟩=some (.int .i64 N):=cell_of_block hbx (j:=1) rfl
 have h0:=h.later hB0
 have kc:=dropBlock_any h0.x (hpa.later hB0) N
 generalize (T.pdrop G S (bSt G.y) N).2.caught G S (T.pdrop G S (bSt G.y) N).1=T1 at kc hc1
 rw [q1] at kc
 have KM:Hid (∀w1,MX w1 X k M→Calls Tryz.prog 72 #[.pointer (some ⟨k,0,none⟩), .int .i64 N] w1 fun e w'=>MO w1 w' X w1.heap.size k (M.drop0 N) e):=fun w1 hm=>mdrop0_any hm (by omega) gg1 gg2 gg3 N
 have HNo:Hid (¬OwT F t n w.heap.size∧¬X w.heap.size):=by
  obtain⟨o1,o2,o3,o4,o5,o6⟩:=h.x.low
  refine⟨fun e=>?_,fun e=>Nat.lt_irrefl _ (h.xl _ e)⟩
  rcases e with e|e|e
  ·exact Nat.lt_irrefl _ (o1 _ e)
  ·omega
  ·omega
 have H0:=Hid.mk (And.intro h0 (And.intro hB0 hbx))
 have HC:=Hid.mk hc1
 clear h hc hdt hpa q1 hc1 hB0 hbx h0 gg1 gg2 gg3 hpl
 generalize M.drop0 N=R at*
 obtain⟨ry,RM⟩:=R
 dsimp only at kc
 unfold MO at KM
 dsimp only at KM HC
 go_enter Tryz.func36,Tryz.ntmps36
 go_wp2_with fail
 refine kc.mono ?_
 rintro e w1 ⟨rfl,hx1,hk1⟩
 have hk1':Keeps (fun j=>OwT F t n j∨X j) (w.alloc (stpC 3 N who two da dn dc)) w1:=hk1.mono (fun _ h=> .inl h)
 have h1:=H0.out.1.after (Y:=X) hx1 (H0.out.1.mm.apart hk1 (fun j e hx=>H0.out.1.offX j hx e)) hk1' (fun _ h=> .inl h)
 have HZ:Hid (w1.heap[w.heap.size]? =some ((stpC 3 N who two da dn dc:Obj))):=(hk1.block _ (lt_there H0.out.2.2) HNo.out.1).trans H0.out.2.2
 have HD1:Hid (Below w1.heap.size w1 w1.drew):=below_drew (Below.refl _ _)
 have H7:Hid (∀w',Below w1.heap.size w1 w'→w'.cell? ⟨kr,4,none⟩=some (.pointer (some ⟨k,0,none⟩))∧w'.cell? ⟨w.heap.size,1,none⟩=some (.int .i64 N)):=fun w' hb=>⟨cell_of_block (h1.later hb).b (j:=4) rfl,cell_of_block ((hb.block _ (lt_there HZ.out)).trans HZ.out) (j:=1) rfl⟩
 have H1:=Hid.mk (And.intro h1 hk1')
 clear kc hx1 hk1 hk1' h1 g0 g1
 go_wp2_with fail
 refine wp_region_held_drew (S:=(fun w'=>w'.cell? ⟨kr,4,none⟩=some (.pointer (some ⟨k,0,none⟩))∧w'.cell? ⟨w.heap.size,1,none⟩=some (.int .i64 N))) (by kernel_rfl) (H7.out _ HD1.out) (fun hHeld=>?_)
 refine wpAnyH_take (i:=0) (oi:={dst:=some 72,op:=Op.move (Operand.tmp 0),type:=28,pos:= "exact.go:204",after:= #[],guard:=none}) (v:= .pointer (some ⟨kr,0,none⟩)) rfl (by kernel_rfl) (by kernel_rfl) (by kernel_rfl) (fun _ _ _ h=>h) (Or.inl ⟨by rfl,?_⟩) (by assumption) ?_
 ·intro w hSw
  (try dsimp only at hSw)
  go_simp
 try simp only [Act.put,List.setIfInBounds_toArray,List.set_cons_zero,List.set_cons_succ]
 refine wpAnyH_take (i:=1) (oi:={dst:=some 73,op:=Op.nilCheck (Operand.tmp 72),type:=0,pos:= "exact.go:204",after:= #[{on:=0,ground:=Ground.data}],guard:=none}) (v:= .pointer (some ⟨kr,0,none⟩)) rfl (by kernel_rfl) (by kernel_rfl) (by kernel_rfl) (fun _ _ _ h=>h) (Or.inl ⟨by rfl,?_⟩) (by assumption) ?_
 ·intro w hSw
  (try dsimp only at hSw)
  go_simp
 try simp only [Act.put,List.setIfInBounds_toArray,List.set_cons_zero,List.set_cons_succ]
 refine wpAnyH_take (i:=2) (oi:={dst:=some 74,op:=Op.fieldAddr 38 (Operand.tmp 73) 4,type:=0,pos:= "exact.go:204",after:= #[{on:=1,ground:=Ground.data}],guard:=none}) (v:= .pointer (some ⟨kr,4,none⟩)) rfl (by kernel_rfl) (by kernel_rfl) (by kernel_rfl) (fun _ _ _ h=>h) (Or.inl ⟨by rfl,?_⟩) (by assumption) ?_
 ·intro w hSw
  (try dsimp only at hSw)
  go_simp
 try simp only [Act.put,List.setIfInBounds_toArray,List.set_cons_zero,List.set_cons_succ]
 refine wpAnyH_take (i:=3) (oi:={dst:=some 75,op:=Op.load 36 (Operand.tmp 74),type:=36,pos:= "exact.go:204",after:= #[{on:=2,ground:=Ground.data}],guard:=none}) (v:= .pointer (some ⟨k,0,none⟩)) rfl (by kernel_rfl) (by kernel_rfl) (by kernel_rfl) (fun _ _ _ h=>h) (Or.inl ⟨by rfl,?_⟩) (by assumption) ?_
 ·intro w hSw
  (try dsimp only at hSw)
  go_simp
 try simp only [Act.put,List.setIfInBounds_toArray,List.set_cons_zero,List.set_cons_succ]
 refine wpAnyH_take (i:=4) (oi:={dst:=some 76,op:=Op.fieldAddr 46 (Operand.tmp 5) 1,type:=0,pos:= "exact.go:204",after:= #[],guard:=none}) (v:= .pointer (some ⟨w.heap.size,1,none⟩)) rfl (by kernel_rfl) (by kernel_rfl) (by kernel_rfl) (fun _ _ _ h=>h) (Or.inl ⟨by rfl,?_⟩) (by assumption) ?_
 ·intro w hSw
  (try dsimp only at hSw)
  go_simp
 try simp only [Act.put,List.setIfInBounds_toArray,List.set_cons_zero,List.set_cons_succ]
 refine wpAnyH_take (i:=5) (oi:={dst:=some 77,op:=Op.load 3 (Operand.tmp 76),type:=3,pos:= "exact.go:204",after:= #[{on:=4,ground:=Ground.data}],guard:=none}) (v:= .int .i64 N) rfl (by kernel_rfl) (by kernel_rfl) (by kernel_rfl) (fun _ _ _ h=>h) (Or.inl ⟨by rfl,?_⟩) (by assumption) ?_
 ·intro w hSw
  (try dsimp only at hSw)
  go_simp
 try simp only [Act.put,List.setIfInBounds_toArray,List.set_cons_zero,List.set_cons_succ]
 refine wpAnyH_ready (rs:= [6]) (by kernel_rfl) (by simp) ?_
 refine AllReadyH.cons (o:={dst:=some 78,op:=Op.call {callee:=Callee.value (Operand.func 72),args:= #[Operand.tmp 75,Operand.tmp 77],argTypes:= #[36,3]},type:=3,pos:= "exact.go:204",after:= #[{on:=3,ground:=Ground.data},{on:=5,ground:=Ground.data}],guard:=none}) rfl (fun K hK=>?_) AllReadyH.nil
 go_simp
 have hr1:=H1.out.1.later HD1.out
 refine(KM.out w1.drew hr1.mm).mono ?_
 rintro e w2 ⟨rfl,hm2,hk2⟩
 have HE:Hid (StpL w w2 F X kr p s q l m t n a1 a2 k S G (.returned (.bool true))):=hr1.both H0.out.2.1 (H1.out.2.trans (Keeps.of_below (fun _=>False) HD1.out) (fun _ h=>h.elim)) HC.out hm2 hk2
 have hcs2:w2.cell? ⟨kr,4,none⟩=some (.pointer (some ⟨k,0,none⟩))∧w2.cell? ⟨w.heap.size,1,none⟩=some (.int .i64 N):=by
  have h9:=H7.out _ HD1.out
  exact⟨(World.cell?_of_block (w:=w1.drew) (a:=⟨kr,4,none⟩) (hk2.block kr (lt_there hr1.b) (fun e=>(hr1.xa kr e).2.2.2.2.2.2.1 rfl))).trans h9.1,(World.cell?_of_block (w:=w1.drew) (a:=⟨w.heap.size,1,none⟩) (hk2.block _ (World.block_lt_of_cell? _ _ h9.2) HNo.out.2)).trans h9.2⟩
 clear hm2 hk2 hr1 KM
 refine hK.out _ _ ?_ (fun hHeld=>?_)
 ·exact hcs2
 clear hK K
 try simp only [Act.put,List.setIfInBounds_toArray,List.set_cons_zero,List.set_cons_succ]
 refine wpAnyH_ready (rs:= [7]) (by kernel_rfl) (by simp) ?_
 refine AllReadyH.cons (o:={dst:=some 14,op:=Op.assign (Operand.tmp 78),type:=3,pos:= "exact.go:204",after:= #[{on:=6,ground:=Ground.data},{on:=6,ground:=Ground.chain},{on:=0,ground:=Ground.phase},{on:=1,ground:=Ground.phase},{on:=2,ground:=Ground.phase},{on:=3,ground:=Ground.phase},{on:=4,ground:=Ground.phase},{on:=5,ground:=Ground.phase},{on:=6,ground:=Ground.phase}],guard:=none}) rfl (fun K hK=>?_) AllReadyH.nil
 go_simp
 refine hK.out _ _ ?_ (fun hHeld=>?_)
 ·exact hcs2
 clear hK K
 try simp only [Act.put,List.setIfInBounds_toArray,List.set_cons_zero,List.set_cons_succ]
 refine wpAnyH_done (by kernel_rfl) ?_ _
 have kn:=num6_any ry w2
 clear H1 HC H0 H7 HZ HD1
 go_wp2_with fail
 refine kn.mono ?_
 rintro e wx ⟨rfl,hwx⟩
 have hwx':=hwx.symm
 subst hwx'
 clear hwx kn
 go_wp2
 go_ret
 exact HE.out
set_option maxRecDepth 20000 in
set_option maxHeartbeats 4000000 in
theorem calls5_any (h:RgW w F X kr p s cR q l m t n a1 a2 k S G T M) (hc:LK G S T M) (hdt:G.y.data=2+G.y.nodes / 4) (hpa:PoolAt w F pa t n):
  Calls Tryz.prog 36 #[.pointer (some ⟨kr,0,none⟩), .pointer (some ⟨pa,0,none⟩),stpV 5 N who two da dn dc] w fun e w'=>StpL w w' F X kr p s q l m t n a1 a2 k S G e:=by
 obtain⟨q1,hc1⟩:=hc.drop1 h.x.yk h.x.tx.ch.ok N
 obtain⟨gg1,gg2,gg3⟩:=hc.geo h.x.yk hdt
 have hpl:=hc.plen
 have hB0:=below_box w (stpC 5 N who two da dn dc)
 have hbx:=heap_alloc_new w (stpC 5 N who two da dn dc)
 have g0:(w.alloc (stpC 5 N who two da dn dc)).cell? ⟨w.heap.size,0,none⟩=some (.int .i64 5):=cell_of_block hbx (j:=0) rfl
 have g1:(w.alloc (stpC 5 N who two da dn dc)).cell? ⟨w.heap.size,1,none⟩=some (.int .i64 N):=cell_of_block hbx (j:=1) rfl
 have h0:=h.later hB0
 have kc:=dropNode_any h0.x (hpa.later hB0) N
 generalize (T.pdrop G S (nSt G.y) N).2.caught G S (T.pdrop G S (nSt G.y) N).1=T1 at kc hc1
 rw [q1] at kc
 have KM:Hid (∀w1,MX w1 X k M→Calls Tryz.prog 76 #[.pointer (some ⟨k,0,none⟩), .int .i64 N] w1 fun e w'=>MO w1 w' X w1.heap.size k (M.drop1 N) e):=fun w1 hm=>mdrop1_any hm (by omega) gg1 gg2 gg3 N
 have HNo:Hid (¬OwT F t n w.heap.size∧¬X w.heap.size):=by
  obtain⟨o1,o2,o3,o4,o5,o6⟩:=h.x.low
  refine⟨fun e=>?_,fun e=>Nat.lt_irrefl _ (h.xl _ e)⟩
  rcases e with e|e|e
  ·exact Nat.lt_irrefl _ (o1 _ e)
  ·omega
  ·omega
 have H0:=Hid.mk (And.intro h0 (And.intro hB0 hbx))
 have HC:=Hid.mk hc1
 clear h hc hdt hpa q1 hc1 hB0 hbx h0 gg1 gg2 gg3 hpl
 generalize M.drop1 N=R at*
 obtain⟨ry,RM⟩:=R
 dsimp only at kc
 unfold MO at KM
 dsimp only at KM HC
 go_enter Tryz.func36,Tryz.ntmps36
 go_wp2_with fail
 refine kc.mono ?_
 rintro e w1 ⟨rfl,hx1,hk1⟩
 have hk1':Keeps (fun j=>OwT F t n j∨X j) (w.alloc (stpC 5 N who two da dn dc)) w1:=hk1.mono (fun _ h=> .inl h)
 have h1:=H0.out.1.after (Y:=X) hx1 (H0.out.1.mm.apart hk1 (fun j e hx=>H0.out.1.offX j hx e)) hk1' (fun _ h=> .inl h)
 have HZ:Hid (w1.heap[w.heap.size]? =some ((stpC 5 N who two da dn dc:Obj))):=(hk1.block _ (lt_there H0.out.2.2) HNo.out.1).trans H0.out.2.2
 have HD1:Hid (Below w1.heap.size w1 w1.drew):=below_drew (Below.refl _ _)
 have H7:Hid (∀w',Below w1.heap.size w1 w'→w'.cell? ⟨kr,4,none⟩=some (.pointer (some ⟨k,0,none⟩))∧w'.cell? ⟨w.heap.size,1,none⟩=some (.int .i64 N)):=fun w' hb=>⟨cell_of_block (h1.later hb).b (j:=4) rfl,cell_of_block ((hb.block _ (lt_there HZ.out)).trans HZ.out) (j:=1) rfl⟩
 have H1:=Hid.mk (And.intro h1 hk1')
 clear kc hx1 hk1 hk1' h1 g0 g1
 go_wp2_with fail
 refine wp_region_held_drew (S:=(fun w'=>w'.cell? ⟨kr,4,none⟩=some (.pointer (some ⟨k,0,none⟩))∧w'.cell? ⟨w.heap.size,1,none⟩=some (.int .i64 N))) (by kernel_rfl) (H7.out _ HD1.out) (fun hHeld=>?_)
 refine wpAnyH_take (i:=0) (oi:={dst:=some 113,op:=Op.move (Operand.tmp 0),type:=28,pos:= "exact.go:212",after:= #[],guard:=none}) (v:= .pointer (some ⟨kr,0,none⟩)) rfl (by kernel_rfl) (by kernel_rfl) (by kernel_rfl) (fun _ _ _ h=>h) (Or.inl ⟨by rfl,?_⟩) (by assumption) ?_
 ·intro w hSw
  (try dsimp only at hSw)
  go_simp
 try simp only [Act.put,List.setIfInBounds_toArray,List.set_cons_zero,List.set_cons_succ]
 refine wpAnyH_take (i:=1) (oi:={dst:=some 114,op:=Op.nilCheck (Operand.tmp 113),type:=0,pos:= "exact.go:212",after:= #[{on:=0,ground:=Ground.data}],guard:=none}) (v:= .pointer (some ⟨kr,0,none⟩)) rfl (by kernel_rfl) (by kernel_rfl) (by kernel_rfl) (fun _ _ _ h=>h) (Or.inl ⟨by rfl,?_⟩) (by assumption) ?_
 ·intro w hSw
  (try dsimp only at hSw)
  go_simp
 try simp only [Act.put,List.setIfInBounds_toArray,List.set_cons_zero,List.set_cons_succ]
 refine wpAnyH_take (i:=2) (oi:={dst:=some 115,op:=Op.fieldAddr 38 (Operand.tmp 114) 4,type:=0,pos:= "exact.go:212",after:= #[{on:=1,ground:=Ground.data}],guard:=none}) (v:= .pointer (some ⟨kr,4,none⟩)) rfl (by kernel_rfl) (by kernel_rfl) (by kernel_rfl) (fun _ _ _ h=>h) (Or.inl ⟨by rfl,?_⟩) (by assumption) ?_
 ·intro w hSw
  (try dsimp only at hSw)
  go_simp
 try simp only [Act.put,List.setIfInBounds_toArray,List.set_cons_zero,List.set_cons_succ]
 refine wpAnyH_take (i:=3) (oi:={dst:=some 116,op:=Op.load 36 (Operand.tmp 115),type:=36,pos:= "exact.go:212",after:= #[{on:=2,ground:=Ground.data}],guard:=none}) (v:= .pointer (some ⟨k,0,none⟩)) rfl (by kernel_rfl) (by kernel_rfl) (by kernel_rfl) (fun _ _ _ h=>h) (Or.inl ⟨by rfl,?_⟩) (by assumption) ?_
 ·intro w hSw
  (try dsimp only at hSw)
  go_simp
 try simp only [Act.put,List.setIfInBounds_toArray,List.set_cons_zero,List.set_cons_succ]
 refine wpAnyH_take (i:=4) (oi:={dst:=some 117,op:=Op.fieldAddr 46 (Operand.tmp 5) 1,type:=0,pos:= "exact.go:212",after:= #[],guard:=none}) (v:= .pointer (some ⟨w.heap.size,1,none⟩)) rfl (by kernel_rfl) (by kernel_rfl) (by kernel_rfl) (fun _ _ _ h=>h) (Or.inl ⟨by rfl,?_⟩) (by assumption) ?_
 ·intro w hSw
  (try dsimp only at hSw)
  go_simp
 try simp only [Act.put,List.setIfInBounds_toArray,List.set_cons_zero,List.set_cons_succ]
 refine wpAnyH_take (i:=5) (oi:={dst:=some 118,op:=Op.load 3 (Operand.tmp 117),type:=3,pos:= "exact.go:212",after:= #[{on:=4,ground:=Ground.data}],guard:=none}) (v:= .int .i64 N) rfl (by kernel_rfl) (by kernel_rfl) (by kernel_rfl) (fun _ _ _ h=>h) (Or.inl ⟨by rfl,?_⟩) (by assumption) ?_
 ·intro w hSw
  (try dsimp only at hSw)
  go_simp
 try simp only [Act.put,List.setIfInBounds_toArray,List.set_cons_zero,List.set_cons_succ]
 refine wpAnyH_ready (rs:= [6]) (by kernel_rfl) (by simp) ?_
 refine AllReadyH.cons (o:={dst:=some 119,op:=Op.call {callee:=Callee.value (Operand.func 76),args:= #[Operand.tmp 116,Operand.tmp 118],argTypes:= #[36,3]},type:=3,pos:= "exact.go:212",after:= #[{on:=3,ground:=Ground.data},{on:=5,ground:=Ground.data}],guard:=none}) rfl (fun K hK=>?_) AllReadyH.nil
 go_simp
 have hr1:=H1.out.1.later HD1.out
 refine(KM.out w1.drew hr1.mm).mono ?_
 rintro e w2 ⟨rfl,hm2,hk2⟩
 have HE:Hid (StpL w w2 F X kr p s q l m t n a1 a2 k S G (.returned (.bool true))):=hr1.both H0.out.2.1 (H1.out.2.trans (Keeps.of_below (fun _=>False) HD1.out) (fun _ h=>h.elim)) HC.out hm2 hk2
 have hcs2:w2.cell? ⟨kr,4,none⟩=some (.pointer (some ⟨k,0,none⟩))∧w2.cell? ⟨w.heap.size,1,none⟩=some (.int .i64 N):=by
  have h9:=H7.out _ HD1.out
  exact⟨(World.cell?_of_block (w:=w1.drew) (a:=⟨kr,4,none⟩) (hk2.block kr (lt_there hr1.b) (fun e=>(hr1.xa kr e).2.2.2.2.2.2.1 rfl))).trans h9.1,(World.cell?_of_block (w:=w1.drew) (a:=⟨w.heap.size,1,none⟩) (hk2.block _ (World.block_lt_of_cell? _ _ h9.2) HNo.out.2)).trans h9.2⟩
 clear hm2 hk2 hr1 KM
 refine hK.out _ _ ?_ (fun hHeld=>?_)
 ·exact hcs2
 clear hK K
 try simp only [Act.put,List.setIfInBounds_toArray,List.set_cons_zero,List.set_cons_succ]
 refine wpAnyH_ready (rs:= [7]) (by kernel_rfl) (by simp) ?_
 refine AllReadyH.cons (o:={dst:=some 20,op:=Op.assign (Operand.tmp 119),type:=3,pos:= "exact.go:212",after:= #[{on:=6,ground:=Ground.data},{on:=6,ground:=Ground.chain},{on:=0,ground:=Ground.phase},{on:=1,ground:=Ground.phase},{on:=2,ground:=Ground.phase},{on:=3,ground:=Ground.phase},{on:=4,ground:=Ground.phase},{on:=5,ground:=Ground.phase},{on:=6,ground:=Ground.phase}],guard:=none}) rfl (fun K hK=>?_) AllReadyH.nil
 go_simp
 refine hK.out _ _ ?_ (fun hHeld=>?_)
 ·exact hcs2
 clear hK K
 try simp only [Act.put,List.setIfInBounds_toArray,List.set_cons_zero,List.set_cons_succ]
 refine wpAnyH_done (by kernel_rfl) ?_ _
 have kn:=num6_any ry w2
 clear H1 HC H0 H7 HZ HD1
 go_wp2_with fail
 refine kn.mono ?_
 rintro e wx ⟨rfl,hwx⟩
 have hwx':=hwx.symm
 subst hwx'
 clear hwx kn
 go_wp2
 go_ret
 exact HE.out
end
end Go.Proofs.YtkiehemoiapkkaaGreat
end
section
namespace Go.Proofs.YtkiehemoiapkkaaGreat
open Go.RowKit Go.Maps
section
variable {w:World} {F:Nat→Prop} {p s cR q l m t n a:Nat} {S:DS} {G:SG} {T:TG}
theorem refusal_no {b:Int} (h0:T.state G S≠0):T.refusal G S b=T.state G S:=by
 unfold TG.refusal
 rw [if_pos h0]
set_option maxRecDepth 20000 in
set_option maxHeartbeats 8000000 in
theorem left_no (h:TX w F p s cR q l m t n S G T) (hp:PoolAt w F a t n) (h0:T.state G S≠0):
  Calls Tryz.prog 77 #[.pointer (some ⟨a,0,none⟩)] w fun e w'=>e= .returned (.tuple #[.int .i64 0, .int .i64 0, .int .i64 (T.state G S)])∧TX w' F p s (cR+2) q l m t n S G (T.spoil G S (T.state G S)).2∧Keeps (OwT F t n) w w':=by
 obtain⟨hB1,hg1,hg2,hsz1⟩:=heap2 w (.cells #[.pointer (some ⟨a,0,none⟩)] 35) (.cells #[.int .i64 0] 39)
 obtain⟨w1,hw1⟩:∃w1,w1=(w.alloc (.cells #[.pointer (some ⟨a,0,none⟩)] 35)).alloc (.cells #[.int .i64 0] 39):=⟨_,rfl⟩
 rw [←hw1] at hB1 hg1 hg2 hsz1
 have hlt:=h.lt
 have hx1:=h.later hB1
 have hp1:=hp.later hB1
 have hblk:=blocks_any hx1 hp1
 have hrf:T.refusal G S (bSt G.y).bm≠0:=by rw [refusal_no h0];exact h0
 have HT:Hid (∀w2,Below w1.drew.heap.size w1.drew w2→Calls Tryz.prog 119 #[.pointer (some ⟨a,0,none⟩),stkV (bSt G.y)] w2 fun e w'=>e= .panicked (gave (T.state G S))∧TX w' F p s (cR+1) q l m t n S G T∧Keeps F w2 w'):=fun w2 hb=>by
  have:=pleft_no (hx1.later hb) (hp1.later hb) (bSt G.y) hrf
  rw [refusal_no h0] at this
  exact this
 have c0:w1.drew.cell? ⟨w.heap.size,0,none⟩=some (.pointer (some ⟨a,0,none⟩)):=cell_of_block hg1 (j:=0) rfl
 have n1:¬OwT F t n w.heap.size:=fun hf=>by have:=hlt _ hf;omega
 have n2:¬OwT F t n (w.heap.size+1):=fun hf=>by have:=hlt _ hf;omega
 have HG:=Hid.mk (And.intro hg1 hg2)
 have HB:=Hid.mk hB1
 have HP:=Hid.mk hp1
 have HLo:=Hid.mk h.low
 have hpa:=hp.lt
 generalize T.state G S=R at*
 generalize stkV (bSt G.y)=V at*
 clear hrf
 have ht2:w.heap.size+1≠t:=fun e=>n2 (.inr (.inl e))
 clear h hp hB1 hx1 hp1 hg1 hg2 h0
 go_enter_defers Tryz.func77,Tryz.ntmps77
 go_wp2_with fail
 rw [←hw1]
 clear hw1
 refine wp_mixed (PnT [{target:= .fn (.func 118) #[.pointer (some ⟨w.heap.size,0,none⟩), .pointer (some ⟨w.heap.size+1,0,none⟩)],args:= #[]}] [(2, .int .i64 0),(3, .int .i64 0),(4, .pointer (some ⟨w.heap.size+1,0,none⟩))] (fun c w3=>c=gave R∧TX w3 F p s (cR+1) q l m t n S G T∧Keeps F w w3∧PoolAt w3 F a t n∧w3.heap[w.heap.size]? =some (.cells #[.pointer (some ⟨a,0,none⟩)] 35 (0,0))∧w3.heap[w.heap.size+1]? =some (.cells #[.int .i64 0] 39 (0,0)))) ?_ ?_
 ·rintro c A w3 ⟨hd,hsl,rfl,hx3,hk3,hp3,g1,g2⟩
  have s1:=hsl (2, .int .i64 0) (by simp)
  have s2:=hsl (3, .int .i64 0) (by simp)
  have s3:=hsl (4, .pointer (some ⟨w.heap.size+1,0,none⟩)) (by simp)
  dsimp only at s1 s2 s3
  rw [Array.getD_eq_getD_getElem?] at s1 s2 s3
  go_wp2
  show Leaves Tryz.prog _ A.tmps _ A.defers _ w3
  rw [hd]
  refine leaves_cons (f:=118) (args:= #[.pointer (some ⟨w.heap.size,0,none⟩), .pointer (some ⟨w.heap.size+1,0,none⟩)]) (by simp) (by simp [go_sem]) ?_
  refine(leftC_panic hx3 hp3 g1 g2 ht2 R).mono ?_
  rintro e u' w4 ⟨rfl,rfl,w5,hx5,hk5,hb5,hk6⟩
  have q2:w4.cell? ⟨w.heap.size+1,0,none⟩=some (.int .i64 R):=cell_of_block hb5 (j:=0) rfl
  simp [Leaves,settle,results,Tryz.results77,go_sem,s1,s2,s3,q2]
  exact⟨(hx5.side HLo.out hk6 (fun k e=>by omega)).le (by omega),((hk3.mono (fun _ h=> .inl h)).trans hk5 (fun _ e=> .inl (.inr (.inl e)))).trans hk6 (fun k e=> .inr (by omega))⟩
 refine wp_region_held_drew (S:=(fun w'=>w'.cell? ⟨w.heap.size,0,none⟩=some (.pointer (some ⟨a,0,none⟩)))) (by kernel_rfl) (c0) (fun hHeld=>?_)
 refine wpAnyH_take (i:=0) (oi:={dst:=some 6,op:=Op.load 35 (Operand.tmp 1),type:=35,pos:= "pool.go:56",after:= #[],guard:=none}) (v:= .pointer (some ⟨a,0,none⟩)) rfl (by kernel_rfl) (by kernel_rfl) (by kernel_rfl) (mixPut (d:=6) (by simp)) (Or.inl ⟨by rfl,?_⟩) (by assumption) ?_
 ·intro w hSw
  (try dsimp only at hSw)
  go_simp
 try simp only [Act.put,List.setIfInBounds_toArray,List.set_cons_zero,List.set_cons_succ]
 refine wpAnyH_take (i:=1) (oi:={dst:=some 7,op:=Op.load 35 (Operand.tmp 1),type:=35,pos:= "pool.go:56",after:= #[],guard:=none}) (v:= .pointer (some ⟨a,0,none⟩)) rfl (by kernel_rfl) (by kernel_rfl) (by kernel_rfl) (mixPut (d:=7) (by simp)) (Or.inl ⟨by rfl,?_⟩) (by assumption) ?_
 ·intro w hSw
  (try dsimp only at hSw)
  go_simp
 try simp only [Act.put,List.setIfInBounds_toArray,List.set_cons_zero,List.set_cons_succ]
 refine wpAnyH_take (i:=4) (oi:={dst:=some 10,op:=Op.load 35 (Operand.tmp 1),type:=35,pos:= "pool.go:56",after:= #[],guard:=none}) (v:= .pointer (some ⟨a,0,none⟩)) rfl (by kernel_rfl) (by kernel_rfl) (by kernel_rfl) (mixPut (d:=10) (by simp)) (Or.inl ⟨by rfl,?_⟩) (by assumption) ?_
 ·intro w hSw
  (try dsimp only at hSw)
  go_simp
 try simp only [Act.put,List.setIfInBounds_toArray,List.set_cons_zero,List.set_cons_succ]
 refine wpAnyH_take (i:=5) (oi:={dst:=some 11,op:=Op.load 35 (Operand.tmp 1),type:=35,pos:= "pool.go:56",after:= #[],guard:=none}) (v:= .pointer (some ⟨a,0,none⟩)) rfl (by kernel_rfl) (by kernel_rfl) (by kernel_rfl) (mixPut (d:=11) (by simp)) (Or.inl ⟨by rfl,?_⟩) (by assumption) ?_
 ·intro w hSw
  (try dsimp only at hSw)
  go_simp
 try simp only [Act.put,List.setIfInBounds_toArray,List.set_cons_zero,List.set_cons_succ]
 refine wpAnyH_ready (rs:= [2]) (by kernel_rfl) (by simp) ?_
 refine AllReadyH.cons (o:={dst:=some 8,op:=Op.call {callee:=Callee.value (Operand.func 25),args:= #[Operand.tmp 7],argTypes:= #[35]},type:=61,pos:= "pool.go:56",after:= #[{on:=1,ground:=Ground.data}],guard:=none}) rfl (fun K hK=>?_) AllReadyH.nil
 go_simp
 refine hblk.mono ?_
 rintro e w2 ⟨rfl,hb2⟩
 have c0':w2.cell? ⟨w.heap.size,0,none⟩=some (.pointer (some ⟨a,0,none⟩)):=cell_of_block ((hb2.block _ (lt_there HG.out.1)).trans HG.out.1) (j:=0) rfl
 refine hK.out _ _ ?_ (fun hHeld=>?_)
 ·exact c0'
 clear hK K
 try simp only [Act.put,List.setIfInBounds_toArray,List.set_cons_zero,List.set_cons_succ]
 refine wpAnyH_ready (rs:= [3]) (by kernel_rfl) (by simp) ?_
 refine AllReadyH.cons (o:={dst:=some 9,op:=Op.call {callee:=Callee.value (Operand.func 119),args:= #[Operand.tmp 6,Operand.tmp 8],argTypes:= #[35,61]},type:=3,pos:= "pool.go:56",after:= #[{on:=0,ground:=Ground.data},{on:=2,ground:=Ground.data},{on:=2,ground:=Ground.chain}],guard:=none}) rfl (fun K hK=>?_) AllReadyH.nil
 go_simp
 refine(HT.out w2 hb2).mono ?_
 rintro e w3 ⟨rfl,hx3,hk3⟩
 have hk3w:=(Keeps.of_below F HB.out).trans ((Keeps.of_below F hb2).trans hk3 (fun _ h=> .inl h)) (fun _ h=> .inl h)
 have g1:=(hk3.block _ (Nat.lt_of_lt_of_le (lt_there HG.out.1) hb2.size) (fun h=>n1 (.inl h))).trans ((hb2.block _ (lt_there HG.out.1)).trans HG.out.1)
 have g2:=(hk3.block _ (Nat.lt_of_lt_of_le (lt_there HG.out.2) hb2.size) (fun h=>n2 (.inl h))).trans ((hb2.block _ (lt_there HG.out.2)).trans HG.out.2)
 have hp3:=(HP.out.later hb2).keep (hk3.mono (fun _ h=> .inl h))
 exact⟨rfl,by simp,rfl,hx3,hk3w,hp3,g1,g2⟩
end
end Go.Proofs.YtkiehemoiapkkaaGreat
end
