import Derived.Test.YtkiehemoiapkkaaGreatU04
section
namespace Go.Proofs.YtkiehemoiapkkaaGreat
open Go.RowKit Go.Maps
def MP.spoil (M:MP) (x:Int):Int×MP:=if M.state≠0 then (M.state,M) else if x=6∨x=50∨x=60∨x=61 then (x,{M with bad:=x}) else (1,M)
theorem LK.spoil {G:SG} {S:DS} {T:TG} {M:MP} (h:LK G S T M) (x:Int):(T.spoil G S x).1=(M.spoil x).1∧LK G S (T.spoil G S x).2 (M.spoil x).2:=by
 unfold TG.spoil MP.spoil
 rw [h.state]
 split
 ·exact⟨rfl,h⟩
 ·split
  ·exact⟨rfl,h.spoilt x⟩
  ·exact⟨rfl,h⟩
section
variable {w w':World} {X Y Z:Nat→Prop} {k:Nat} {M:MP}
set_option maxRecDepth 20000 in
set_option maxHeartbeats 4000000 in
theorem mspoil_any (h:MX w X k M) (x:Int):Calls Tryz.prog 40 #[.pointer (some ⟨k,0,none⟩), .int .i64 x] w fun e w'=>e= .returned (.int .i64 (M.spoil x).1)∧MX w' X k (M.spoil x).2∧Keeps X w w':=by
 have ks:=mstate_any h
 obtain⟨c10,f10,hm2,hk2⟩:=h.setBad x
 have H:=Hid.mk h
 have H2:=Hid.mk (And.intro hm2 hk2)
 clear h hm2 hk2
 by_cases h0:M.state=0
 ·rw [h0] at ks
  by_cases e6:x=6
  ·have HE:Hid (M.spoil x=(x,{M with bad:=x})):=by show M.spoil x=_;unfold MP.spoil;rw [if_neg (fun e=>e h0),if_pos (by omega)]
   obtain rfl:x=6:=by omega
   clear h0
   go_enter Tryz.func40,Tryz.ntmps40
   go_wp2_with fail
   refine ks.mono ?_
   rintro e w0 ⟨rfl,hw0⟩
   have hw0':=hw0.symm
   subst hw0'
   clear hw0 ks
   go_wp2
   go_ret
   rw [HE.out]
   exact⟨rfl,H2.out.1,H2.out.2⟩
  ·by_cases e50:x=50
   ·have HE:Hid (M.spoil x=(x,{M with bad:=x})):=by show M.spoil x=_;unfold MP.spoil;rw [if_neg (fun e=>e h0),if_pos (by omega)]
    obtain rfl:x=50:=by omega
    clear h0
    go_enter Tryz.func40,Tryz.ntmps40
    go_wp2_with fail
    refine ks.mono ?_
    rintro e w0 ⟨rfl,hw0⟩
    have hw0':=hw0.symm
    subst hw0'
    clear hw0 ks
    go_wp2
    go_ret
    rw [HE.out]
    exact⟨rfl,H2.out.1,H2.out.2⟩
   ·by_cases e60:x=60
    ·have HE:Hid (M.spoil x=(x,{M with bad:=x})):=by show M.spoil x=_;unfold MP.spoil;rw [if_neg (fun e=>e h0),if_pos (by omega)]
     obtain rfl:x=60:=by omega
     clear h0
     go_enter Tryz.func40,Tryz.ntmps40
     go_wp2_with fail
     refine ks.mono ?_
     rintro e w0 ⟨rfl,hw0⟩
     have hw0':=hw0.symm
     subst hw0'
     clear hw0 ks
     go_wp2
     go_ret
     rw [HE.out]
     exact⟨rfl,H2.out.1,H2.out.2⟩
    ·by_cases e61:x=61
     ·have HE:Hid (M.spoil x=(x,{M with bad:=x})):=by show M.spoil x=_;unfold MP.spoil;rw [if_neg (fun e=>e h0),if_pos (by omega)]
      obtain rfl:x=61:=by omega
      clear h0
      go_enter Tryz.func40,Tryz.ntmps40
      go_wp2_with fail
      refine ks.mono ?_
      rintro e w0 ⟨rfl,hw0⟩
      have hw0':=hw0.symm
      subst hw0'
      clear hw0 ks
      go_wp2
      go_ret
      rw [HE.out]
      exact⟨rfl,H2.out.1,H2.out.2⟩
     ·have HE:Hid (M.spoil x=(1,M)):=by show M.spoil x=_;unfold MP.spoil;rw [if_neg (fun e=>e h0),if_neg (by omega)]
      have d6:(x != 6)=true:=by rw [bne_iff_ne];exact e6
      have d50:(x != 50)=true:=by rw [bne_iff_ne];exact e50
      have d60:(x != 60)=true:=by rw [bne_iff_ne];exact e60
      have d61:(x != 61)=true:=by rw [bne_iff_ne];exact e61
      clear h0 e6 e50 e60 e61
      go_enter Tryz.func40,Tryz.ntmps40
      go_wp2_with fail
      refine ks.mono ?_
      rintro e w0 ⟨rfl,hw0⟩
      have hw0':=hw0.symm
      subst hw0'
      clear hw0 ks
      go_wp2
      go_ret
      rw [HE.out]
      exact⟨rfl,H.out,Keeps.refl _ _⟩
 ·have HE:Hid (M.spoil x=(M.state,M)):=by show M.spoil x=_;unfold MP.spoil;rw [if_pos h0]
  obtain⟨y,hy⟩:∃y,y=M.state:=⟨_,rfl⟩
  rw [←hy] at ks h0 HE
  have d0:(y != 0)=true:=by rw [bne_iff_ne];exact h0
  clear h0 hy
  go_enter Tryz.func40,Tryz.ntmps40
  go_wp2_with fail
  refine ks.mono ?_
  rintro e w0 ⟨rfl,hw0⟩
  have hw0':=hw0.symm
  subst hw0'
  clear hw0 ks
  go_wp2
  go_ret
  rw [HE.out]
  exact⟨rfl,H.out,Keeps.refl _ _⟩
end
end Go.Proofs.YtkiehemoiapkkaaGreat
end
section
namespace Go.Proofs.YtkiehemoiapkkaaGreat
open Go.RowKit Go.Maps
def MP.wraw (M:MP) (b:Nat) (d:List Int):Int×MP:=if M.state≠0 then (M.state,M) else if M.raw.getD b []=d then (0,M) else if (M.puts b).1≠0 then M.puts b else (0,{(M.puts b).2 with raw:=M.raw.set b d})
theorem LK.rawAt {G:SG} {S:DS} {T:TG} {M:MP} (h:LK G S T M) {b:Nat} (hb2:2≤b) (hb:b<G.y.blocks):M.raw.getD b []=T.sees G S b:=by
 rw [List.getD_eq_getElem?_getD,h.so b hb2 hb]
 rfl
theorem LK.wraw {G:SG} {S:DS} {T:TG} {M:MP} (h:LK G S T M) (hok:CM.Ok T.puts) {b:Nat} (hb2:2≤b) (hb:b<G.y.blocks) {d:List Int} (hl:d.length=512):∃z T' M',T.put G S (b:Int) d=(z,T')∧M.wraw b d=(z,M')∧LK G S T' M':=by
 unfold MP.wraw
 by_cases h0:M.state=0
 ·rw [if_neg (fun e=>e h0),h.rawAt hb2 hb]
  by_cases he:d=T.sees G S b
  ·rw [if_pos he.symm]
   have hr:T.refusal G S (b:Int)=0:=refusal_in (h.state.trans h0) hb
   refine⟨0,T,M,?_,rfl,h⟩
   unfold TG.put
   rw [if_neg (fun h=>h hr),if_neg (fun h=>h hl),Int.toNat_natCast,if_pos he]
  ·rw [if_neg (fun e=>he e.symm)]
   rcases h.puts hok h0 hb hl he with ⟨p1,p2⟩|⟨r,p1,p2,p3,p4,p5⟩
   ·refine⟨50,_,_,p1,?_,h.spoilt 50⟩
    rw [p2]
    rfl
   ·have hg:=fun i=>sees_put (G:=G) (S:=S) (T:=T) (bm:=b) (d:=d) hok i
    refine⟨0,_,{M with put:=r,raw:=M.raw.set b d},p1,?_,h.bad,h.en,h.op,h.dd,p3,p4,p5,by rw [hg,if_neg (by omega)];exact h.s0,by rw [hg,if_neg (by omega)];exact h.s1,fun c h1 h2=>?_,h.mb,h.mn,by rw [List.length_set];exact h.rl,h.l0,h.l1,h.o0,h.o1,h.oo,h.orl,h.k0,h.k1⟩
    ·rw [p2]
     rfl
    ·rw [hg]
     show (M.raw.set b d)[c]? =_
     by_cases e:c=b
     ·subst e
      rw [if_pos rfl,List.getElem?_set_self (by have:=h.rl;omega)]
     ·rw [if_neg e,List.getElem?_set_ne (fun q=>e q.symm)]
      exact h.so c h1 h2
 ·rw [if_pos h0]
  exact⟨M.state,T,M,by rw [put_st (by rw [h.state];exact h0),h.state],rfl,h⟩
theorem strs_eq {a b:List Int} (ha:Bytes a) (hb:Bytes b):((strOfNums a).toList == (strOfNums b).toList)=decide (a=b):=by
 by_cases e:a=b
 ·subst e
  simp
 ·rw [decide_eq_false e,beq_eq_false_iff_ne]
  intro h
  apply e
  rw [←txt_str ha,←txt_str hb]
  unfold txt
  rw [←ByteArray.toList_eq,←ByteArray.toList_eq,h]
theorem row_stored {w:World} {e:TypeId} {g c:Nat} {xs:List Value} (h:RowAt w e g c xs) (k:Nat) (v:Value):RowAt (w.setCell ⟨g,k,none⟩ v) e g c (xs.set k v):=by
 obtain⟨cur,hb,hc,ht,hm⟩:=h
 refine⟨_,heap_setCell_same _ _ _ _ _ _ hb,by simpa using hc,?_,hm⟩
 rw [List.length_set,Array.toList_setIfInBounds,List.take_set,ht]
section
variable {w w':World} {X Y Z:Nat→Prop} {k:Nat} {M:MP}
theorem MX.setRaw (h:MX w X k M) (hop:M.opn=true) {b:Nat} (hb:b<M.raw.length) {g c:Nat} {d:List Int} (hr:RowAt w 5 g c (bs d)):∃gv cv u,w.cell? ⟨k,8,none⟩=some (.slice (some ⟨gv,0,none⟩) M.raw.length cv)∧w.cell? ⟨gv,b,none⟩=some u∧w.frozen? ⟨gv,b,none⟩=false∧MX (w.setCell ⟨gv,b,none⟩ (.slice (some ⟨g,0,none⟩) 512 c)) (fun j=>X j∨j=g) k {M with raw:=M.raw.set b d}∧Keeps X w (w.setCell ⟨gv,b,none⟩ (.slice (some ⟨g,0,none⟩) 512 c)):=by
 obtain⟨g1,c1,g2,c2,g3,c3,g4,c4,v5,v6,v7,h⟩:=h
 obtain⟨xs,h1,h2,h3⟩:=h.raw
 obtain⟨gv,cv,rfl,_,hrow,_⟩:=RowAt.of_owns h1 (by
  intro e
  obtain⟨_,⟨_,hn⟩|⟨g,c,cur,e',_⟩⟩:=h1
  ·omega
  ·rw [e] at e';cases e')
 have hxl:xs.length=M.raw.length:=by have:=h1.1;simpa using this
 obtain⟨gx,cx,ex,_,_⟩:=h3 b hb
 obtain⟨cur,hcur,_⟩:=id hrow
 have hk:=Keeps.setCell (F:=fun j=>j=gv) w (p:=⟨gv,b,none⟩) rfl (.slice (some ⟨g,0,none⟩) 512 c)
 have hXg:X gv:=h2 gv rfl
 have u8:∀g' c' l,RowAt w 5 g' c' (bs l)→RowAt (w.setCell ⟨gv,b,none⟩ (.slice (some ⟨g,0,none⟩) 512 c)) 5 g' c' (bs l):=fun g' c' l hq=>hq.agree (hk.block g' hq.lt (fun e=>by
  obtain⟨cu,hc,_⟩:=hq
  rw [e,hcur] at hc
  cases hc))
 have tb:∀g' c' l,BX w X g' c' l→BX (w.setCell ⟨gv,b,none⟩ (.slice (some ⟨g,0,none⟩) 512 c)) (fun j=>X j∨j=g) g' c' l:=fun g' c' l hq=>⟨.inl hq.1,hq.2.1.agree (hk.block g' hq.2.1.lt (fun e=>by
  obtain⟨cu,hc,_⟩:=hq.2.1
  rw [e,hcur] at hc
  cases hc)),hq.2.2⟩
 have hkb:=(hk.block k (lt_there h.b) (fun e=>by
  have h9:=h.b
  rw [e,hcur] at h9
  cases h9)).trans h.b
 have hil:IL w X v7 M.put:=⟨h.put.1,h.put.2⟩
 have hil2:=hil.keep hk (fun g' hg e=>by
  obtain⟨cu,hc⟩:=owns_block hil.own hg
  rw [e,hcur] at hc
  cases hc)
 have horaw:RWs (w.setCell ⟨gv,b,none⟩ (.slice (some ⟨g,0,none⟩) 512 c)) (fun j=>X j∨j=g) v5 M.oraw:=by
  obtain⟨ys,o1,o2,o3⟩:=h.oraw
  refine⟨ys,owns_agree o1 (fun g' hg=>?_),fun g' hg=> .inl (o2 g' hg),fun i hi=>?_⟩
  ·obtain⟨cu,hc⟩:=owns_block o1 hg
   exact hk.block g' (lt_there hc) (fun e=>h.own hop g' hg (by rw [e];rfl))
  ·obtain⟨g',c',e1,e2,e3⟩:=o3 i hi
   exact⟨g',c',e1, .inl e2,u8 _ _ _ e3⟩
 have hraw:RWs (w.setCell ⟨gv,b,none⟩ (.slice (some ⟨g,0,none⟩) 512 c)) (fun j=>X j∨j=g) (.slice (some ⟨gv,0,none⟩) M.raw.length cv) (M.raw.set b d):=by
  refine⟨xs.set b (.slice (some ⟨g,0,none⟩) 512 c),?_,fun g' hg=> .inl (h2 g' hg),fun i hi=>?_⟩
  ·have h9:=(row_stored hrow b (.slice (some ⟨g,0,none⟩) 512 c)).owns
   rw [List.length_set,hxl] at h9
   rw [List.length_set]
   exact h9
  ·rw [List.length_set] at hi
   by_cases e:i=b
   ·subst e
    exact⟨g,c,List.getElem?_set_self (by omega), .inr rfl,by rw [List.getElem_set_self];exact u8 _ _ _ hr⟩
   ·obtain⟨g',c',e1,e2,e3⟩:=h3 i hi
    exact⟨g',c',by rw [List.getElem?_set_ne (fun q=>e q.symm)];exact e1, .inl e2,by rw [List.getElem_set_ne (fun q=>e q.symm)];exact u8 _ _ _ e3⟩
 exact⟨gv,cv,_,cell_of_block h.b (j:=8) rfl,hrow.cell ex,frozen_of_block hcur b,⟨_,_,_,_,_,_,_,_,_,_,_,⟨hkb, .inl h.xk,tb _ _ _ h.ob,tb _ _ _ h.on,tb _ _ _ h.nb,tb _ _ _ h.nn,h.n12,h.n13,h.n14,h.n23,h.n24,h.n34,horaw,hraw,⟨hil2.own,fun g' hg=> .inl (hil2.x g' hg)⟩,h.own⟩⟩,hk.mono (fun j hj=>by rw [hj];exact hXg)⟩
set_option maxRecDepth 20000 in
set_option maxHeartbeats 8000000 in
theorem mwraw_any {d:List Int} {g c:Nat} (h:MX w X k M) (hop:M.opn=true) (hp:M.put.length≤16) (hrg:RowAt w 5 g c (bs d)) (hgX:¬X g) (hd:Bytes d) (hdl:d.length=512) (b:Nat) (h2:2≤b) (hb:b<M.raw.length) (hrb:Bytes (M.raw.getD b [])) (hrl5:(M.raw.getD b []).length=512):
  Calls Tryz.prog 84 #[.pointer (some ⟨k,0,none⟩), .int .i64 (b:Int), .slice (some ⟨g,0,none⟩) 512 c] w fun e w'=>e= .returned (.int .i64 (M.wraw b d).1)∧MX w' (fun j=>X j∨j=g∨(w.heap.size≤j∧j<w'.heap.size)) k (M.wraw b d).2∧Keeps X w w':=by
 have ks:=mstate_any h
 by_cases h0:M.state=0
 ·rw [h0] at ks
  have hgd:M.raw.getD b []=M.raw[b]:=by rw [List.getD_eq_getElem?_getD,List.getElem?_eq_getElem hb];rfl
  have hR:M.wraw b d=if M.raw.getD b []=d then (0,M) else if (M.puts b).1≠0 then M.puts b else (0,{(M.puts b).2 with raw:=M.raw.set b d}):=by unfold MP.wraw;rw [if_neg (fun e=>e h0)]
  have hse:=strs_eq hrb hd
  obtain⟨bb,hbb⟩:∃bb,bb=decide (M.raw.getD b []=d):=⟨_,rfl⟩
  rw [←hbb] at hse
  have HM:=Hid.mk h
  obtain⟨g1,c1,gq2,cq2,g3,c3,g4,c4,v5,v6,v7,hma⟩:=h
  obtain⟨gv,cv,g2,c2,ev,cvj,_,hrw,_⟩:=hma.raw.at hb
  rw [←hgd] at hrw
  obtain⟨nr,hnr⟩:∃nr,nr=M.raw.length:=⟨_,rfl⟩
  have c8:w.cell? ⟨k,8,none⟩=some (.slice (some ⟨gv,0,none⟩) nr cv):=by
   have h9:w.cell? ⟨k,8,none⟩=some v6:=cell_of_block hma.b (j:=8) rfl
   rw [h9,ev,hnr]
  obtain⟨sx,hsx⟩:∃sx,sx=strOfNums (M.raw.getD b []):=⟨_,rfl⟩
  obtain⟨sy,hsy⟩:∃sy,sy=strOfNums d:=⟨_,rfl⟩
  rw [←hsx,←hsy] at hse
  have HC:Hid (∀w',Below w.heap.size w w'→w'.cell? ⟨k,8,none⟩=some (.slice (some ⟨gv,0,none⟩) nr cv)∧w'.cell? ⟨gv,b,none⟩=some (.slice (some ⟨g2,0,none⟩) 512 c2)∧(convert 44 9 (.slice (some ⟨g2,0,none⟩) 512 c2)).run Tryz.prog w'= .ok (.string sx) w'∧(convert 44 9 (.slice (some ⟨g,0,none⟩) 512 c)).run Tryz.prog w'= .ok (.string sy) w'):=fun w' hq=>by
   refine⟨cell_later hq c8,cell_later hq cvj,?_,?_⟩
   ·rw [hsx]
    exact run_convert_bytes_arg (P:=Tryz.prog) w' 44 5 Tryz.underlying44 Tryz.underlying5 g2 0 512 c2 (M.raw.getD b []) hrl5 (fun i hi=>by rw [Nat.zero_add];exact cell_later hq (hrw.get (by omega))) 9 Tryz.underlying9
   ·rw [hsy]
    exact run_convert_bytes_arg (P:=Tryz.prog) w' 44 5 Tryz.underlying44 Tryz.underlying5 g 0 512 c d hdl (fun i hi=>by rw [Nat.zero_add];exact cell_later hq (hrg.get (by omega))) 9 Tryz.underlying9
  have HDr:Hid (Below w.heap.size w w.drew):=(Keeps.drew (fun _=>False) w).below (fun _ h=>h.elim) (Nat.le_refl _)
  have HP:Hid (Calls Tryz.prog 66 #[.pointer (some ⟨k,0,none⟩), .int .i64 (b:Int)] w.drew fun e w'=>e= .returned (.int .i64 (M.puts b).1)∧MX w' (more X w.drew w') k (M.puts b).2∧Keeps X w.drew w'):=puts_any (HM.out.later HDr.out) b hp
  have HG:Hid (RowAt w 5 g c (bs d)):=hrg
  have HR:=Hid.mk hR
  have HBB:=Hid.mk hbb
  have HPu:Hid ((M.puts b).1=0∨(M.puts b).1≠0):=Decidable.em _
  have HOp:Hid ((M.puts b).2.opn=true∧(M.puts b).2.raw=M.raw):=by
   show (M.puts b).2.opn=true∧(M.puts b).2.raw=M.raw
   unfold MP.puts
   split
   ·exact⟨hop,rfl⟩
   ·split <;> exact⟨hop,rfl⟩
  have HNR:=Hid.mk (And.intro hnr hb)
  have hbi:¬(b:Int)<2:=by omega
  have hb0:(0:Int)≤(b:Int):=by omega
  have hbn:(b:Int)<(nr:Int):=by omega
  clear hop hp hrg hd hdl hrb hrl5 h0 hgd hR hbb hma ev cvj hrw hnr c8 hsx hsy h2 hb
  go_enter Tryz.func84,Tryz.ntmps84
  go_wp2_with fail
  refine ks.mono ?_
  rintro e w0 ⟨rfl,hw0⟩
  have hw0':=hw0.symm
  subst hw0'
  clear hw0 ks
  go_wp2_with fail
  refine wp_region_held_drew (S:=(fun w'=>w'.cell? ⟨k,8,none⟩=some (.slice (some ⟨gv,0,none⟩) nr cv)∧w'.cell? ⟨gv,b,none⟩=some (.slice (some ⟨g2,0,none⟩) 512 c2)∧(convert 44 9 (.slice (some ⟨g2,0,none⟩) 512 c2)).run Tryz.prog w'= .ok (.string sx) w'∧(convert 44 9 (.slice (some ⟨g,0,none⟩) 512 c)).run Tryz.prog w'= .ok (.string sy) w')) (by kernel_rfl) (HC.out _ HDr.out) (fun hHeld=>?_)
  refine wpAnyH_take (i:=0) (oi:={dst:=some 20,op:=Op.move (Operand.tmp 0),type:=36,pos:= "ref.go:196",after:= #[],guard:=none}) (v:= .pointer (some ⟨k,0,none⟩)) rfl (by kernel_rfl) (by kernel_rfl) (by kernel_rfl) (fun _ _ _ h=>h) (Or.inl ⟨by rfl,?_⟩) (by assumption) ?_
  ·intro w hSw
   (try dsimp only at hSw)
   go_simp
  try simp only [Act.put,List.setIfInBounds_toArray,List.set_cons_zero,List.set_cons_succ]
  refine wpAnyH_take (i:=1) (oi:={dst:=some 21,op:=Op.nilCheck (Operand.tmp 20),type:=0,pos:= "ref.go:196",after:= #[{on:=0,ground:=Ground.data}],guard:=none}) (v:= .pointer (some ⟨k,0,none⟩)) rfl (by kernel_rfl) (by kernel_rfl) (by kernel_rfl) (fun _ _ _ h=>h) (Or.inl ⟨by rfl,?_⟩) (by assumption) ?_
  ·intro w hSw
   (try dsimp only at hSw)
   go_simp
  try simp only [Act.put,List.setIfInBounds_toArray,List.set_cons_zero,List.set_cons_succ]
  refine wpAnyH_take (i:=2) (oi:={dst:=some 22,op:=Op.fieldAddr 72 (Operand.tmp 21) 6,type:=0,pos:= "ref.go:196",after:= #[{on:=1,ground:=Ground.data}],guard:=none}) (v:= .pointer (some ⟨k,8,none⟩)) rfl (by kernel_rfl) (by kernel_rfl) (by kernel_rfl) (fun _ _ _ h=>h) (Or.inl ⟨by rfl,?_⟩) (by assumption) ?_
  ·intro w hSw
   (try dsimp only at hSw)
   go_simp
  try simp only [Act.put,List.setIfInBounds_toArray,List.set_cons_zero,List.set_cons_succ]
  refine wpAnyH_take (i:=3) (oi:={dst:=some 23,op:=Op.load 70 (Operand.tmp 22),type:=70,pos:= "ref.go:196",after:= #[{on:=2,ground:=Ground.data}],guard:=none}) (v:= .slice (some ⟨gv,0,none⟩) nr cv) rfl (by kernel_rfl) (by kernel_rfl) (by kernel_rfl) (fun _ _ _ h=>h) (Or.inl ⟨by rfl,?_⟩) (by assumption) ?_
  ·intro w hSw
   (try dsimp only at hSw)
   go_simp
  try simp only [Act.put,List.setIfInBounds_toArray,List.set_cons_zero,List.set_cons_succ]
  refine wpAnyH_take (i:=4) (oi:={dst:=some 24,op:=Op.move (Operand.tmp 1),type:=3,pos:= "ref.go:196",after:= #[],guard:=none}) (v:= .int .i64 (b:Int)) rfl (by kernel_rfl) (by kernel_rfl) (by kernel_rfl) (fun _ _ _ h=>h) (Or.inl ⟨by rfl,?_⟩) (by assumption) ?_
  ·intro w hSw
   (try dsimp only at hSw)
   go_simp
  try simp only [Act.put,List.setIfInBounds_toArray,List.set_cons_zero,List.set_cons_succ]
  refine wpAnyH_take (i:=5) (oi:={dst:=some 25,op:=Op.indexAddr 70 (Operand.tmp 23) (Operand.tmp 24),type:=0,pos:= "ref.go:196",after:= #[{on:=3,ground:=Ground.data},{on:=4,ground:=Ground.data}],guard:=none}) (v:= .pointer (some ⟨gv,b,none⟩)) rfl (by kernel_rfl) (by kernel_rfl) (by kernel_rfl) (fun _ _ _ h=>h) (Or.inl ⟨by rfl,?_⟩) (by assumption) ?_
  ·intro w hSw
   (try dsimp only at hSw)
   go_simp
  try simp only [Act.put,List.setIfInBounds_toArray,List.set_cons_zero,List.set_cons_succ]
  refine wpAnyH_take (i:=6) (oi:={dst:=some 26,op:=Op.load 44 (Operand.tmp 25),type:=44,pos:= "ref.go:196",after:= #[{on:=5,ground:=Ground.data}],guard:=none}) (v:= .slice (some ⟨g2,0,none⟩) 512 c2) rfl (by kernel_rfl) (by kernel_rfl) (by kernel_rfl) (fun _ _ _ h=>h) (Or.inl ⟨by rfl,?_⟩) (by assumption) ?_
  ·intro w hSw
   (try dsimp only at hSw)
   go_simp
  try simp only [Act.put,List.setIfInBounds_toArray,List.set_cons_zero,List.set_cons_succ]
  refine wpAnyH_take (i:=7) (oi:={dst:=some 27,op:=Op.convert 44 9 (Operand.tmp 26),type:=9,pos:= "ref.go:196",after:= #[{on:=6,ground:=Ground.data}],guard:=none}) (v:= .string sx) rfl (by kernel_rfl) (by kernel_rfl) (by kernel_rfl) (fun _ _ _ h=>h) (Or.inl ⟨by rfl,?_⟩) (by assumption) ?_
  ·intro w hSw
   (try dsimp only at hSw)
   go_simp
  try simp only [Act.put,List.setIfInBounds_toArray,List.set_cons_zero,List.set_cons_succ]
  refine wpAnyH_take (i:=8) (oi:={dst:=some 28,op:=Op.move (Operand.tmp 2),type:=44,pos:= "ref.go:196",after:= #[],guard:=none}) (v:= .slice (some ⟨g,0,none⟩) 512 c) rfl (by kernel_rfl) (by kernel_rfl) (by kernel_rfl) (fun _ _ _ h=>h) (Or.inl ⟨by rfl,?_⟩) (by assumption) ?_
  ·intro w hSw
   (try dsimp only at hSw)
   go_simp
  try simp only [Act.put,List.setIfInBounds_toArray,List.set_cons_zero,List.set_cons_succ]
  refine wpAnyH_take (i:=9) (oi:={dst:=some 29,op:=Op.convert 44 9 (Operand.tmp 28),type:=9,pos:= "ref.go:196",after:= #[{on:=8,ground:=Ground.data}],guard:=none}) (v:= .string sy) rfl (by kernel_rfl) (by kernel_rfl) (by kernel_rfl) (fun _ _ _ h=>h) (Or.inl ⟨by rfl,?_⟩) (by assumption) ?_
  ·intro w hSw
   (try dsimp only at hSw)
   go_simp
  try simp only [Act.put,List.setIfInBounds_toArray,List.set_cons_zero,List.set_cons_succ]
  refine wpAnyH_take (i:=10) (oi:={dst:=some 30,op:=Op.binOp BinOp.eql 9 (Operand.tmp 27) (Operand.tmp 29) 9,type:=4,pos:= "ref.go:196",after:= #[{on:=7,ground:=Ground.data},{on:=9,ground:=Ground.data}],guard:=none}) (v:= .bool bb) rfl (by kernel_rfl) (by kernel_rfl) (by kernel_rfl) (fun _ _ _ h=>h) (Or.inl ⟨by rfl,?_⟩) (by assumption) ?_
  ·intro w hSw
   (try dsimp only at hSw)
   go_simp
  try simp only [Act.put,List.setIfInBounds_toArray,List.set_cons_zero,List.set_cons_succ]
  refine wpAnyH_done (by kernel_rfl) ?_ _
  cases hB:bb
  ·have hne:¬M.raw.getD b []=d:=by
    have h9:=HBB.out
    rw [hB] at h9
    exact of_decide_eq_false h9.symm
   have HR2:Hid (M.wraw b d=if (M.puts b).1≠0 then M.puts b else (0,{(M.puts b).2 with raw:=M.raw.set b d})):=by
    show M.wraw b d=_
    rw [HR.out,if_neg hne]
   subst hB
   have kp:=HP.out
   clear hne hse HC HP
   rcases HPu.out with hz|hz
   ·rw [hz] at kp
    have HE2:Hid (M.wraw b d=(0,{(M.puts b).2 with raw:=M.raw.set b d})):=by
     show M.wraw b d=_
     rw [HR2.out,if_neg (fun e=>e hz)]
    clear hz
    go_wp2_with fail
    refine kp.mono ?_
    rintro e w1 ⟨rfl,hm1,hk1⟩
    have hrg1:RowAt w1 5 g c (bs d):=(HG.out.agree (HDr.out.block g HG.out.lt)).agree (hk1.block g (Nat.lt_of_lt_of_le HG.out.lt HDr.out.size) hgX)
    obtain⟨gv',cv',u,e8,eu,fu,hm2,hk2⟩:=hm1.setRaw HOp.out.1 (b:=b) (by rw [HOp.out.2];exact HNR.out.2) hrg1
    rw [HOp.out.2,←HNR.out.1] at e8
    have HE3:Hid (MX (w1.setCell ⟨gv',b,none⟩ (.slice (some ⟨g,0,none⟩) 512 c)) (fun j=>X j∨j=g∨(w.heap.size≤j∧j<(w1.setCell ⟨gv',b,none⟩ (.slice (some ⟨g,0,none⟩) 512 c)).heap.size)) k (M.wraw b d).2∧Keeps X w (w1.setCell ⟨gv',b,none⟩ (.slice (some ⟨g,0,none⟩) 512 c))):=by
     have z0:=HDr.out.size
     have z2:=hk2.size
     refine⟨?_,((Keeps.of_below X HDr.out).trans hk1 (fun _ h=> .inl h)).trans hk2 (fun j hj=>hj.imp (fun e=>e) (fun e=>by have:=e.1;omega))⟩
     rw [HE2.out]
     rw [HOp.out.2] at hm2
     refine hm2.mono (fun j hj=>?_)
     rcases hj with (hj|hj)|hj
     ·exact .inl hj
     ·exact .inr (.inr ⟨by omega,by omega⟩)
     ·exact .inr (.inl hj)
    clear kp hm1 hk1 hrg1 hm2 hk2
    go_wp2
    go_ret
    rw [HE2.out]
    rw [HE2.out] at HE3
    exact⟨rfl,HE3.out.1,HE3.out.2⟩
   ·have HE2:Hid (M.wraw b d=M.puts b):=by
     show M.wraw b d=_
     rw [HR2.out,if_pos hz]
    obtain⟨z,hzz⟩:∃z,z=(M.puts b).1:=⟨_,rfl⟩
    rw [←hzz] at kp hz
    have dz:(z == 0)=false:=by rw [beq_eq_false_iff_ne];exact hz
    have HZ:=Hid.mk hzz
    clear hz hzz
    go_wp2_with fail
    refine kp.mono ?_
    rintro e w1 ⟨rfl,hm1,hk1⟩
    have HE3:Hid (MX w1 (fun j=>X j∨j=g∨(w.heap.size≤j∧j<w1.heap.size)) k (M.puts b).2∧Keeps X w w1):=by
     have z0:=HDr.out.size
     exact⟨hm1.mono (fun j hj=>hj.imp (fun e=>e) (fun e=> .inr ⟨by have:=e.1;omega,e.2⟩)),(Keeps.of_below X HDr.out).trans hk1 (fun _ h=> .inl h)⟩
    clear kp hm1 hk1
    go_wp2
    go_ret
    rw [HE2.out,←HZ.out]
    exact⟨rfl,HE3.out.1,HE3.out.2⟩
  ·have HR2:Hid (M.wraw b d=(0,M)):=by
    show M.wraw b d=_
    have h9:=HBB.out
    rw [hB] at h9
    rw [HR.out,if_pos (of_decide_eq_true h9.symm)]
   subst hB
   have HE3:Hid (MX w.drew (fun j=>X j∨j=g∨(w.heap.size≤j∧j<w.drew.heap.size)) k M∧Keeps X w w.drew):=⟨(HM.out.later HDr.out).mono (fun _ h=> .inl h),Keeps.of_below X HDr.out⟩
   clear hse HC HP
   go_wp2
   go_ret
   rw [HR2.out]
   exact⟨rfl,HE3.out.1,HE3.out.2⟩
 ·have hc:M.wraw b d=(M.state,M):=by unfold MP.wraw;rw [if_pos h0]
  rw [hc]
  have H:=Hid.mk h
  clear h hop hp hrg hgX hd hdl h2 hb hrb hrl5 hc
  generalize M.state=x at*
  have d0:(x != 0)=true:=by rw [bne_iff_ne];exact h0
  go_enter Tryz.func84,Tryz.ntmps84
  go_wp2_with fail
  refine ks.mono ?_
  rintro e w0 ⟨rfl,hw0⟩
  have hw0':=hw0.symm
  subst hw0'
  clear hw0 ks
  go_wp2
  go_ret
  exact⟨rfl,H.out.mono (fun _ h=> .inl h),Keeps.refl _ _⟩
end
end Go.Proofs.YtkiehemoiapkkaaGreat
end
section
namespace Go.Proofs.YtkiehemoiapkkaaGreat
open Go.RowKit Go.Maps
section
variable {w:World} {F X:Nat→Prop} {kr p s cR q l m t n a1 a2 k pa:Nat} {S:DS} {G:SG} {T:TG} {M:MP} {N:Int} {who two:Bool} {da:Option Addr} {dn dc:Nat} {dl:List Int}
set_option maxRecDepth 20000 in
set_option maxHeartbeats 8000000 in
theorem raw10_in (h:RgW w F X kr p s cR q l m t n a1 a2 k S G T M) (hc:LK G S T M) (hpa:PoolAt w F pa t n) (hN:I64 N) (hs:∀w',Keeps (fun j=>OwT F t n j∨X j) w w'→Src w' da dn dl) (hby:Bytes dl) (hdn:dn≤140737488355328) (hbb:2+wthn N 0 29<G.y.blocks):
  Calls Tryz.prog 38 #[.pointer (some ⟨kr,0,none⟩), .pointer (some ⟨pa,0,none⟩),stpV 10 N who two da dn dc] w fun e w'=>StpL w w' F X kr p s q l m t n a1 a2 k S G e:=by
 obtain⟨b,hb⟩:∃b,b=2+wthn N 0 29:=⟨_,rfl⟩
 rw [←hb] at hbb
 have hb2:2≤b:=by omega
 obtain⟨zz,T1,M1,q1,q2,hc1⟩:=hc.wraw h.x.tx.ch.ok hb2 hbb (pad5_len dl)
 have hB0:=below_box w (stpC 10 N who two da dn dc)
 have hbx:=heap_alloc_new w (stpC 10 N who two da dn dc)
 have g0:(w.alloc (stpC 10 N who two da dn dc)).cell? ⟨w.heap.size,0,none⟩=some (.int .i64 10):=cell_of_block hbx (j:=0) rfl
 have g1:(w.alloc (stpC 10 N who two da dn dc)).cell? ⟨w.heap.size,1,none⟩=some (.int .i64 N):=cell_of_block hbx (j:=1) rfl
 have g4:(w.alloc (stpC 10 N who two da dn dc)).cell? ⟨w.heap.size,4,none⟩=some (.slice da dn dc):=cell_of_block hbx (j:=4) rfl
 have h0:=h.later hB0
 have ce:(w.alloc (stpC 10 N who two da dn dc)).cell? ⟨kr,4,none⟩=some (.pointer (some ⟨k,0,none⟩)):=cell_of_block h0.b (j:=4) rfl
 have cb:(w.alloc (stpC 10 N who two da dn dc)).cell? ⟨k,0,none⟩=some (.int .i64 (M.blocks:Int)):=by
  obtain⟨gq1,cq1,gq2,cq2,gq3,cq3,gq4,cq4,v5,v6,v7,hma⟩:=h0.mm
  exact cell_of_block hma.b (j:=0) rfl
 have hmb:2≤M.blocks:=by have:=h.x.yk.b2;have h9:M.blocks=G.y.blocks:=hc.mb;omega
 have kw1:=within6_any N 0 29 (by omega) (by omega) ⟨hN.1,hN.2⟩ (w.alloc (stpC 10 N who two da dn dc))
 have hwl:=(wthn_in N (lo:=0) (hi:=29) (by omega)).2
 generalize wthn N 0 29=y at*
 have hbI:((b:Nat):Int)=2+(y:Int):=by omega
 have hmb2:¬(M.blocks:Int)≤2+(y:Int):=by have h9:M.blocks=G.y.blocks:=hc.mb;omega
 have HbI:=Hid.mk hbI
 have HPa:=Hid.mk (hpa.later hB0)
 have c0:=HPa.out.c0
 have H6:Hid (∀w',Below (w.alloc (stpC 10 N who two da dn dc)).heap.size (w.alloc (stpC 10 N who two da dn dc)) w'→w'.cell? ⟨pa,0,none⟩=some (.pointer (some ⟨t,0,none⟩))∧w'.cell? ⟨w.heap.size,4,none⟩=some (.slice da dn dc)):=fun w' hw=>⟨cell_later hw c0,cell_later hw g4⟩
 have HD0:Hid (Below (w.alloc (stpC 10 N who two da dn dc)).heap.size (w.alloc (stpC 10 N who two da dn dc)) (w.alloc (stpC 10 N who two da dn dc)).drew):=(Keeps.drew (fun _=>False) _).below (fun _ h=>h.elim) (Nat.le_refl _)
 have HNo:Hid (¬OwT F t n w.heap.size):=fun e=>by have:=h.x.lt _ e;omega
 have HR:=Hid.mk h
 have HR0:=Hid.mk h0
 have HB0:=Hid.mk hB0
 have HBx:=Hid.mk hbx
 have HC:=Hid.mk (And.intro hc hc1)
 have HQ1:=Hid.mk q1
 have HQ2:=Hid.mk q2
 have HSr:=Hid.mk hs
 clear h hc hpa hs q1 q2 hc1 hB0 hbx h0 c0 hb g4 hbI
 go_enter Tryz.func38,Tryz.ntmps38
 go_wp2_with fail
 refine kw1.mono ?_
 rintro e wx ⟨rfl,hwx⟩
 subst hwx
 clear kw1
 go_wp2_with fail
 refine wp_region_held_drew (S:=(fun w'=>w'.cell? ⟨pa,0,none⟩=some (.pointer (some ⟨t,0,none⟩))∧w'.cell? ⟨w.heap.size,4,none⟩=some (.slice da dn dc))) (by kernel_rfl) (H6.out _ HD0.out) (fun hHeld=>?_)
 refine wpAnyH_take (i:=0) (oi:={dst:=some 29,op:=Op.move (Operand.tmp 1),type:=35,pos:= "exact.go:156",after:= #[],guard:=none}) (v:= .pointer (some ⟨pa,0,none⟩)) rfl (by kernel_rfl) (by kernel_rfl) (by kernel_rfl) (fun _ _ _ h=>h) (Or.inl ⟨by rfl,?_⟩) (by assumption) ?_
 ·intro w hSw
  (try dsimp only at hSw)
  go_simp
 try simp only [Act.put,List.setIfInBounds_toArray,List.set_cons_zero,List.set_cons_succ]
 refine wpAnyH_take (i:=1) (oi:={dst:=some 30,op:=Op.nilCheck (Operand.tmp 29),type:=0,pos:= "exact.go:156",after:= #[{on:=0,ground:=Ground.data}],guard:=none}) (v:= .pointer (some ⟨pa,0,none⟩)) rfl (by kernel_rfl) (by kernel_rfl) (by kernel_rfl) (fun _ _ _ h=>h) (Or.inl ⟨by rfl,?_⟩) (by assumption) ?_
 ·intro w hSw
  (try dsimp only at hSw)
  go_simp
 try simp only [Act.put,List.setIfInBounds_toArray,List.set_cons_zero,List.set_cons_succ]
 refine wpAnyH_take (i:=2) (oi:={dst:=some 31,op:=Op.fieldAddr 59 (Operand.tmp 30) 0,type:=0,pos:= "exact.go:156",after:= #[{on:=1,ground:=Ground.data}],guard:=none}) (v:= .pointer (some ⟨pa,0,none⟩)) rfl (by kernel_rfl) (by kernel_rfl) (by kernel_rfl) (fun _ _ _ h=>h) (Or.inl ⟨by rfl,?_⟩) (by assumption) ?_
 ·intro w hSw
  (try dsimp only at hSw)
  go_simp
 try simp only [Act.put,List.setIfInBounds_toArray,List.set_cons_zero,List.set_cons_succ]
 refine wpAnyH_take (i:=3) (oi:={dst:=some 32,op:=Op.load 57 (Operand.tmp 31),type:=57,pos:= "exact.go:156",after:= #[{on:=2,ground:=Ground.data}],guard:=none}) (v:= .pointer (some ⟨t,0,none⟩)) rfl (by kernel_rfl) (by kernel_rfl) (by kernel_rfl) (fun _ _ _ h=>h) (Or.inl ⟨by rfl,?_⟩) (by assumption) ?_
 ·intro w hSw
  (try dsimp only at hSw)
  go_simp
 try simp only [Act.put,List.setIfInBounds_toArray,List.set_cons_zero,List.set_cons_succ]
 refine wpAnyH_take (i:=4) (oi:={dst:=some 33,op:=Op.move (Operand.tmp 7),type:=3,pos:= "exact.go:156",after:= #[],guard:=none}) (v:= .int .i64 (2+(y:Int))) rfl (by kernel_rfl) (by kernel_rfl) (by kernel_rfl) (fun _ _ _ h=>h) (Or.inl ⟨by rfl,?_⟩) (by assumption) ?_
 ·intro w hSw
  (try dsimp only at hSw)
  go_simp
 try simp only [Act.put,List.setIfInBounds_toArray,List.set_cons_zero,List.set_cons_succ]
 refine wpAnyH_take (i:=5) (oi:={dst:=some 34,op:=Op.fieldAddr 46 (Operand.tmp 5) 4,type:=0,pos:= "exact.go:156",after:= #[],guard:=none}) (v:= .pointer (some ⟨w.heap.size,4,none⟩)) rfl (by kernel_rfl) (by kernel_rfl) (by kernel_rfl) (fun _ _ _ h=>h) (Or.inl ⟨by rfl,?_⟩) (by assumption) ?_
 ·intro w hSw
  (try dsimp only at hSw)
  go_simp
 try simp only [Act.put,List.setIfInBounds_toArray,List.set_cons_zero,List.set_cons_succ]
 refine wpAnyH_take (i:=6) (oi:={dst:=some 35,op:=Op.load 44 (Operand.tmp 34),type:=44,pos:= "exact.go:156",after:= #[{on:=5,ground:=Ground.data}],guard:=none}) (v:= .slice da dn dc) rfl (by kernel_rfl) (by kernel_rfl) (by kernel_rfl) (fun _ _ _ h=>h) (Or.inl ⟨by rfl,?_⟩) (by assumption) ?_
 ·intro w hSw
  (try dsimp only at hSw)
  go_simp
 try simp only [Act.put,List.setIfInBounds_toArray,List.set_cons_zero,List.set_cons_succ]
 refine wpAnyH_ready (rs:= [7]) (by kernel_rfl) (by simp) ?_
 refine AllReadyH.cons (o:={dst:=some 36,op:=Op.call {callee:=Callee.value (Operand.func 83),args:= #[Operand.tmp 35],argTypes:= #[44]},type:=44,pos:= "exact.go:156",after:= #[{on:=6,ground:=Ground.data}],guard:=none}) rfl (fun K hK=>?_) AllReadyH.nil
 go_simp
 refine(padded_any (c:=dc) (HSr.out _ (Keeps.of_below _ (HB0.out.trans (HD0.out.mono HB0.out.size)))) hdn).mono ?_
 rintro e w1 ⟨gp,cp,rfl,hgp,hrp,hb1⟩
 have hB1:Below (w.alloc (stpC 10 N who two da dn dc)).heap.size (w.alloc (stpC 10 N who two da dn dc)) w1:=HD0.out.trans (hb1.mono HD0.out.size)
 refine hK.out _ _ ?_ (fun hHeld=>?_)
 ·exact H6.out _ hB1
 clear hK K
 try simp only [Act.put,List.setIfInBounds_toArray,List.set_cons_zero,List.set_cons_succ]
 refine wpAnyH_ready (rs:= [8]) (by kernel_rfl) (by simp) ?_
 refine AllReadyH.cons (o:={dst:=some 37,op:=Op.call {callee:=Callee.value (Operand.func 63),args:= #[Operand.tmp 32,Operand.tmp 33,Operand.tmp 36],argTypes:= #[57,3,44]},type:=39,pos:= "exact.go:156",after:= #[{on:=3,ground:=Ground.data},{on:=4,ground:=Ground.data},{on:=7,ground:=Ground.data},{on:=7,ground:=Ground.chain}],guard:=none}) rfl (fun K hK=>?_) AllReadyH.nil
 go_simp
 have hr1:=HR0.out.later hB1
 have hsp:Src w1 (some ⟨gp,0,none⟩) 512 (pad5 dl):=by have h9:=hrp.src;rw [pad5_len] at h9;exact h9
 have kp:=Put_any hr1.x.st hr1.x.tx (b:Int) (some ⟨gp,0,none⟩) 512 cp (pad5 dl) hsp (by omega) (pad5_bytes hby) hr1.x.big
 rw [HQ1.out,HbI.out] at kp
 refine kp.mono ?_
 intro e w2 hP
 have he2:=hP.1
 subst he2
 have hx2:TX w2 F p s (cR+1) q l m t n S G T1∧Keeps (OwT F t n) w1 w2:=by
  have h9:=hr1.x.put (b:=(b:Int)) (d:=pad5 dl) (by rw [HQ1.out];exact hP)
  rw [HQ1.out] at h9
  exact h9
 have hk2:Keeps (fun j=>OwT F t n j∨X j) w w2:=((Keeps.of_below _ HB0.out).trans (Keeps.of_below (fun _=>False) hB1) (fun _ h=>h.elim)).trans (hx2.2.mono (fun _ h=> .inl h)) (fun _ h=> .inl h)
 have hr2:=HR.out.after (Y:=X) hx2.1 (HR.out.mm.apart (((Keeps.of_below (OwT F t n) HB0.out).trans (Keeps.of_below (fun _=>False) hB1) (fun _ h=>h.elim)).trans hx2.2 (fun _ h=> .inl h)) (fun j e hx=>HR.out.offX j hx e)) hk2 (fun _ h=> .inl h)
 have hcs2:w2.cell? ⟨pa,0,none⟩=some (.pointer (some ⟨t,0,none⟩))∧w2.cell? ⟨w.heap.size,4,none⟩=some (.slice da dn dc):=by
  refine⟨((HPa.out.later hB1).keep hx2.2).c0,?_⟩
  have z1:w.heap.size<w1.heap.size:=Nat.lt_of_lt_of_le (lt_there HBx.out) hB1.size
  exact cell_of_block ((hx2.2.block _ z1 (fun e=>by have:=hr1.x.low;have:=HNo.out;exact this e)).trans ((hB1.block _ (lt_there HBx.out)).trans HBx.out)) (j:=4) rfl
 have H2:=Hid.mk (And.intro hr2 (And.intro hk2 hcs2.2))
 clear kp hP hx2 hk2 hr2 hr1 hsp hrp hb1
 refine hK.out _ _ ?_ (fun hHeld=>?_)
 ·exact hcs2
 clear hK K
 try simp only
 refine wpAnyH_ready (rs:= [9]) (by kernel_rfl) (by simp) ?_
 refine AllReadyH.cons (o:={dst:=some 8,op:=Op.assign (Operand.tmp 37),type:=39,pos:= "exact.go:156",after:= #[{on:=8,ground:=Ground.data},{on:=8,ground:=Ground.chain},{on:=0,ground:=Ground.phase},{on:=1,ground:=Ground.phase},{on:=2,ground:=Ground.phase},{on:=3,ground:=Ground.phase},{on:=4,ground:=Ground.phase},{on:=5,ground:=Ground.phase},{on:=6,ground:=Ground.phase},{on:=7,ground:=Ground.phase},{on:=8,ground:=Ground.phase}],guard:=none}) rfl (fun K hK=>?_) AllReadyH.nil
 go_simp
 refine hK.out _ _ ?_ (fun hHeld=>?_)
 ·exact hcs2
 clear hK K
 try simp only [Act.put,List.setIfInBounds_toArray,List.set_cons_zero,List.set_cons_succ]
 refine wpAnyH_done (by kernel_rfl) ?_ _
 clear hHeld g0 g1 ce cb
 have HD2:Hid (Below w2.heap.size w2 w2.drew):=(Keeps.drew (fun _=>False) w2).below (fun _ h=>h.elim) (Nat.le_refl _)
 have H7:Hid (∀w',Below w2.heap.size w2 w'→w'.cell? ⟨kr,4,none⟩=some (.pointer (some ⟨k,0,none⟩))∧w'.cell? ⟨w.heap.size,4,none⟩=some (.slice da dn dc)):=fun w' hw=>⟨cell_later hw (cell_of_block H2.out.1.b (j:=4) rfl),cell_later hw H2.out.2.2⟩
 clear hcs2
 go_wp2_with fail
 refine wp_region_held_drew (S:=(fun w'=>w'.cell? ⟨kr,4,none⟩=some (.pointer (some ⟨k,0,none⟩))∧w'.cell? ⟨w.heap.size,4,none⟩=some (.slice da dn dc))) (by kernel_rfl) (H7.out _ HD2.out) (fun hHeld=>?_)
 refine wpAnyH_take (i:=0) (oi:={dst:=some 38,op:=Op.move (Operand.tmp 0),type:=28,pos:= "exact.go:157",after:= #[],guard:=none}) (v:= .pointer (some ⟨kr,0,none⟩)) rfl (by kernel_rfl) (by kernel_rfl) (by kernel_rfl) (fun _ _ _ h=>h) (Or.inl ⟨by rfl,?_⟩) (by assumption) ?_
 ·intro w hSw
  (try dsimp only at hSw)
  go_simp
 try simp only [Act.put,List.setIfInBounds_toArray,List.set_cons_zero,List.set_cons_succ]
 refine wpAnyH_take (i:=1) (oi:={dst:=some 39,op:=Op.nilCheck (Operand.tmp 38),type:=0,pos:= "exact.go:157",after:= #[{on:=0,ground:=Ground.data}],guard:=none}) (v:= .pointer (some ⟨kr,0,none⟩)) rfl (by kernel_rfl) (by kernel_rfl) (by kernel_rfl) (fun _ _ _ h=>h) (Or.inl ⟨by rfl,?_⟩) (by assumption) ?_
 ·intro w hSw
  (try dsimp only at hSw)
  go_simp
 try simp only [Act.put,List.setIfInBounds_toArray,List.set_cons_zero,List.set_cons_succ]
 refine wpAnyH_take (i:=2) (oi:={dst:=some 40,op:=Op.fieldAddr 38 (Operand.tmp 39) 4,type:=0,pos:= "exact.go:157",after:= #[{on:=1,ground:=Ground.data}],guard:=none}) (v:= .pointer (some ⟨kr,4,none⟩)) rfl (by kernel_rfl) (by kernel_rfl) (by kernel_rfl) (fun _ _ _ h=>h) (Or.inl ⟨by rfl,?_⟩) (by assumption) ?_
 ·intro w hSw
  (try dsimp only at hSw)
  go_simp
 try simp only [Act.put,List.setIfInBounds_toArray,List.set_cons_zero,List.set_cons_succ]
 refine wpAnyH_take (i:=3) (oi:={dst:=some 41,op:=Op.load 36 (Operand.tmp 40),type:=36,pos:= "exact.go:157",after:= #[{on:=2,ground:=Ground.data}],guard:=none}) (v:= .pointer (some ⟨k,0,none⟩)) rfl (by kernel_rfl) (by kernel_rfl) (by kernel_rfl) (fun _ _ _ h=>h) (Or.inl ⟨by rfl,?_⟩) (by assumption) ?_
 ·intro w hSw
  (try dsimp only at hSw)
  go_simp
 try simp only [Act.put,List.setIfInBounds_toArray,List.set_cons_zero,List.set_cons_succ]
 refine wpAnyH_take (i:=4) (oi:={dst:=some 42,op:=Op.move (Operand.tmp 7),type:=3,pos:= "exact.go:157",after:= #[],guard:=none}) (v:= .int .i64 (2+(y:Int))) rfl (by kernel_rfl) (by kernel_rfl) (by kernel_rfl) (fun _ _ _ h=>h) (Or.inl ⟨by rfl,?_⟩) (by assumption) ?_
 ·intro w hSw
  (try dsimp only at hSw)
  go_simp
 try simp only [Act.put,List.setIfInBounds_toArray,List.set_cons_zero,List.set_cons_succ]
 refine wpAnyH_take (i:=5) (oi:={dst:=some 43,op:=Op.fieldAddr 46 (Operand.tmp 5) 4,type:=0,pos:= "exact.go:157",after:= #[],guard:=none}) (v:= .pointer (some ⟨w.heap.size,4,none⟩)) rfl (by kernel_rfl) (by kernel_rfl) (by kernel_rfl) (fun _ _ _ h=>h) (Or.inl ⟨by rfl,?_⟩) (by assumption) ?_
 ·intro w hSw
  (try dsimp only at hSw)
  go_simp
 try simp only [Act.put,List.setIfInBounds_toArray,List.set_cons_zero,List.set_cons_succ]
 refine wpAnyH_take (i:=6) (oi:={dst:=some 44,op:=Op.load 44 (Operand.tmp 43),type:=44,pos:= "exact.go:157",after:= #[{on:=5,ground:=Ground.data}],guard:=none}) (v:= .slice da dn dc) rfl (by kernel_rfl) (by kernel_rfl) (by kernel_rfl) (fun _ _ _ h=>h) (Or.inl ⟨by rfl,?_⟩) (by assumption) ?_
 ·intro w hSw
  (try dsimp only at hSw)
  go_simp
 try simp only [Act.put,List.setIfInBounds_toArray,List.set_cons_zero,List.set_cons_succ]
 refine wpAnyH_ready (rs:= [7]) (by kernel_rfl) (by simp) ?_
 refine AllReadyH.cons (o:={dst:=some 45,op:=Op.call {callee:=Callee.value (Operand.func 83),args:= #[Operand.tmp 44],argTypes:= #[44]},type:=44,pos:= "exact.go:157",after:= #[{on:=6,ground:=Ground.data}],guard:=none}) rfl (fun K hK=>?_) AllReadyH.nil
 go_simp
 refine(padded_any (c:=dc) (HSr.out _ (H2.out.2.1.trans (Keeps.of_below (fun _=>False) HD2.out) (fun _ h=>h.elim))) hdn).mono ?_
 rintro e w3 ⟨gp3,cp3,rfl,hgp3,hrp3,hb3⟩
 have hB3:Below w2.heap.size w2 w3:=HD2.out.trans (hb3.mono HD2.out.size)
 refine hK.out _ _ ?_ (fun hHeld=>?_)
 ·exact H7.out _ hB3
 clear hK K
 try simp only [Act.put,List.setIfInBounds_toArray,List.set_cons_zero,List.set_cons_succ]
 refine wpAnyH_ready (rs:= [8]) (by kernel_rfl) (by simp) ?_
 refine AllReadyH.cons (o:={dst:=some 46,op:=Op.call {callee:=Callee.value (Operand.func 84),args:= #[Operand.tmp 41,Operand.tmp 42,Operand.tmp 45],argTypes:= #[36,3,44]},type:=3,pos:= "exact.go:157",after:= #[{on:=3,ground:=Ground.data},{on:=4,ground:=Ground.data},{on:=7,ground:=Ground.data},{on:=7,ground:=Ground.chain}],guard:=none}) rfl (fun K hK=>?_) AllReadyH.nil
 go_simp
 have hr3:=H2.out.1.later hB3
 have hgX3:¬X gp3:=fun e=>by have h1:=H2.out.1.xl _ e;have h2:=HD2.out.size;omega
 have hsee:=HC.out.1.rawAt hb2 hbb
 have km:=mwraw_any hr3.mm HC.out.1.op HC.out.1.plen hrp3 hgX3 (pad5_bytes hby) (pad5_len dl) b hb2 (by rw [HC.out.1.rl];exact hbb) (by rw [hsee];exact HR.out.x.bytes b) (by rw [hsee];exact HR.out.x.len b hbb)
 rw [HQ2.out,HbI.out] at km
 refine km.mono ?_
 rintro e w4 ⟨rfl,hm4,hk4⟩
 have HE:Hid (∃X' T' M' c',RgW w4 F X' kr p s c' q l m t n a1 a2 k S G T' M'∧LK G S T' M'∧Keeps (fun j=>OwT F t n j∨X j) w w4∧(∀j,X' j→X j∨(w.heap.size≤j∧j<w4.heap.size))):=by
  have z2:=H2.out.2.1.size
  have z3:=hB3.size
  have z5:=HD2.out.size
  have z4:=hk4.size
  have hg3:gp3<w3.heap.size:=hrp3.lt
  have hk24:Keeps (fun j=>OwT F t n j∨X j) w2 w4:=(Keeps.of_below _ hB3).trans (hk4.mono (fun _ h=> .inr h)) (fun _ h=> .inl h)
  refine⟨_,T1,M1,_,H2.out.1.after (hr3.x.apart hk4 (fun j hj=>?_)) hm4 hk24 (fun j hj=>?_),HC.out.2,H2.out.2.1.trans hk24 (fun _ h=> .inl h),fun j hj=>?_⟩
  ·have h9:=hr3.xa j hj
   exact⟨h9.1,h9.2.1,h9.2.2.1,h9.2.2.2.1,h9.2.2.2.2.1,h9.2.2.2.2.2.1⟩
  ·rcases hj with hj|hj|hj
   ·exact .inl hj
   ·exact .inr ⟨by omega,by omega⟩
   ·exact .inr ⟨by omega,hj.2⟩
  ·rcases hj with hj|hj|hj
   ·exact .inl hj
   ·exact .inr ⟨by omega,by omega⟩
   ·exact .inr ⟨by omega,hj.2⟩
 have hcs4:w4.cell? ⟨kr,4,none⟩=some (.pointer (some ⟨k,0,none⟩))∧w4.cell? ⟨w.heap.size,4,none⟩=some (.slice da dn dc):=by
  have h9:=H7.out _ hB3
  have z4:w.heap.size<w3.heap.size:=Nat.lt_of_lt_of_le (World.block_lt_of_cell? _ _ H2.out.2.2) hB3.size
  exact⟨(World.cell?_of_block (w:=w3) (a:=⟨kr,4,none⟩) (hk4.block kr (lt_there hr3.b) (fun e=>(hr3.xa kr e).2.2.2.2.2.2.1 rfl))).trans h9.1,(World.cell?_of_block (w:=w3) (a:=⟨w.heap.size,4,none⟩) (hk4.block _ z4 (fun e=>Nat.lt_irrefl _ (HR.out.xl _ e)))).trans h9.2⟩
 clear km hm4 hk4 hr3 hrp3 hb3
 refine hK.out _ _ ?_ (fun hHeld=>?_)
 ·exact hcs4
 clear hK K
 try simp only
 refine wpAnyH_ready (rs:= [9]) (by kernel_rfl) (by simp) ?_
 refine AllReadyH.cons (o:={dst:=some 9,op:=Op.assign (Operand.tmp 46),type:=3,pos:= "exact.go:157",after:= #[{on:=8,ground:=Ground.data},{on:=8,ground:=Ground.chain},{on:=0,ground:=Ground.phase},{on:=1,ground:=Ground.phase},{on:=2,ground:=Ground.phase},{on:=3,ground:=Ground.phase},{on:=4,ground:=Ground.phase},{on:=5,ground:=Ground.phase},{on:=6,ground:=Ground.phase},{on:=7,ground:=Ground.phase},{on:=8,ground:=Ground.phase}],guard:=none}) rfl (fun K hK=>?_) AllReadyH.nil
 go_simp
 refine hK.out _ _ ?_ (fun hHeld=>?_)
 ·exact hcs4
 clear hK K
 try simp only [Act.put,List.setIfInBounds_toArray,List.set_cons_zero,List.set_cons_succ]
 refine wpAnyH_done (by kernel_rfl) ?_ _
 clear hHeld hcs4
 have kn:=num6_any zz w4
 go_wp2_with fail
 refine kn.mono ?_
 rintro e wx ⟨rfl,hwx⟩
 have hwx':=hwx.symm
 subst hwx'
 clear hwx kn
 go_wp2
 go_ret
 exact⟨rfl,HE.out⟩
set_option maxRecDepth 20000 in
set_option maxHeartbeats 4000000 in
theorem raw10_out (h:RgW w F X kr p s cR q l m t n a1 a2 k S G T M) (hc:LK G S T M) (hN:I64 N) (hbb:¬2+wthn N 0 29<G.y.blocks):
  Calls Tryz.prog 38 #[.pointer (some ⟨kr,0,none⟩), .pointer (some ⟨pa,0,none⟩),stpV 10 N who two da dn dc] w fun e w'=>StpL w w' F X kr p s q l m t n a1 a2 k S G e:=by
 have hB0:=below_box w (stpC 10 N who two da dn dc)
 have hbx:=heap_alloc_new w (stpC 10 N who two da dn dc)
 have g0:(w.alloc (stpC 10 N who two da dn dc)).cell? ⟨w.heap.size,0,none⟩=some (.int .i64 10):=cell_of_block hbx (j:=0) rfl
 have g1:(w.alloc (stpC 10 N who two da dn dc)).cell? ⟨w.heap.size,1,none⟩=some (.int .i64 N):=cell_of_block hbx (j:=1) rfl
 have h0:=h.later hB0
 have ce:(w.alloc (stpC 10 N who two da dn dc)).cell? ⟨kr,4,none⟩=some (.pointer (some ⟨k,0,none⟩)):=cell_of_block h0.b (j:=4) rfl
 have cb:(w.alloc (stpC 10 N who two da dn dc)).cell? ⟨k,0,none⟩=some (.int .i64 (M.blocks:Int)):=by
  obtain⟨gq1,cq1,gq2,cq2,gq3,cq3,gq4,cq4,v5,v6,v7,hma⟩:=h0.mm
  exact cell_of_block hma.b (j:=0) rfl
 have kw1:=within6_any N 0 29 (by omega) (by omega) ⟨hN.1,hN.2⟩ (w.alloc (stpC 10 N who two da dn dc))
 have hwl:=(wthn_in N (lo:=0) (hi:=29) (by omega)).2
 generalize wthn N 0 29=y at*
 have hmb2:(M.blocks:Int)≤2+(y:Int):=by have h9:M.blocks=G.y.blocks:=hc.mb;omega
 have HE:Hid (StpL w (w.alloc (stpC 10 N who two da dn dc)) F X kr p s q l m t n a1 a2 k S G (.returned (.bool true))):=⟨rfl,X,T,M,_,h0,hc,Keeps.of_below _ hB0,fun _ h=> .inl h⟩
 clear h hc hB0 hbx h0 hbb
 go_enter Tryz.func38,Tryz.ntmps38
 go_wp2_with fail
 refine kw1.mono ?_
 rintro e wx ⟨rfl,hwx⟩
 subst hwx
 clear kw1
 go_wp2
 go_ret
 exact HE.out
end
end Go.Proofs.YtkiehemoiapkkaaGreat
end
