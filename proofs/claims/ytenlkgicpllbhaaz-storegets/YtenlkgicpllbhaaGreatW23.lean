import Derived.Test.YtenlkgicpllbhaaGreatW01
import Derived.Test.YtenlkgicpllbhaaGreatW22
set_option maxRecDepth 20000
set_option maxHeartbeats 8000000
set_option linter.all false
namespace Go.Proofs.YtenlkgicpllbhaaGreat
open Go.Proofs.Tryz
open Go.RowKit Go.Maps
section
section
variable {w w':World} {q:Nat} {F P F2 X O A:Nat->Prop} {p r s c N:Nat} {S:DS} {v1 v2 v3 v4:Value} {ss:List PI} {ts:List PT} {rs:List RI} {us:List RJ}
theorem C7 (h:W5 w q F P F2 X O p r s S S c v1 v2 v3 v4 ss ts rs us) (hl:Lk S s N ss ts rs us) (E:∀g,(F g\/P g\/F2 g\/X g\/O g)->A g) (mc:∀g,A g->g<w.heap.size) (h1:ss.length<=N) (h2:ts.length<=N) (hc:c<=5000*N) (hN:N<=3999999990000) (kd ag Z BB:Int) (da:Option Addr) (dn dc:Nat) (pa:Option Addr) (pn pc:Nat) (x y z:Int) (AD:ag<=9223372036854775807) (d:List Int) (wL:∀W,aa A w W->Src W da dn d) (wX:Bytes d) (DM:dn<=140737488355328) (Ep:kd=4\/kd=5\/kd=6\/kd=7\/kd=8\/kd=9\/kd=12):
  Calls prog 32 #[pV q, .agg (iO kd ag Z BB da dn dc pa pn pc x y z)] w λe w'=>e= .returned (.bool true)/\dJ w w' q A p r s N:=by
 obtain⟨W,hW⟩:=bQ (w.alloc (.cells (iO kd ag Z BB da dn dc pa pn pc x y z) 41));have EB:bW w W:=by rw [hW];exact(bi w.heap.size w).alloc (bP _) _
 have BP:W.heap[w.heap.size]? =some (.cells (iO kd ag Z BB da dn dc pa pn pc x y z) 41 (0,0)):=by rw [hW];exact heap_alloc_new _ _
 have Hv:W.heap.size=w.heap.size+1:=by rw [hW,World.size_alloc]
 have tW:¬A w.heap.size:=λv=>by have:=mc _ v;omega
 obtain⟨a3,c3,hv3⟩:=AB h.o3;have To:=h.later EB;have d0:W.cell? (aD w.heap.size 0)=some (iV kd):=aL BP;have d1:W.cell? (aD w.heap.size 1)=some (iV ag):=bD BP;have e4:=To.c4;have sd:=λk=>Az (W.drewN k) ts.length ag AD (by omega);obtain⟨HW,U,CQ,Mp⟩:=cM To hl EB BP;rw [hv3] at e4;clear h hl To EB BP;go_in;go_wp2_with fail;rw [<-hW];clear hW;go_quiet (first|(go_at_call 73;refine Calls.quiet_of_same (sd _)));rename_i nq _;have hq:bW W (W.drewN nq):=below_drewN (bi _ _) nq;have fH:=(HW.later hq);have ux:=(CQ.trans (hq.mono (by omega)));have X3:(W.drewN nq).heap.size=w.heap.size+1:=Hv;have Uu:=((hq.block w.heap.size (by omega)).trans Mp);clear HW CQ Mp sd hq d0 d1 e4 Hv;generalize W.drewN nq=V at*;have dV0:V.cell? (aD w.heap.size 0)=some (iV kd):=aL Uu;have dV2:V.cell? (aD w.heap.size 2)=some (iV Z):=bH Uu;have e4:=fH.c4;have e5:=fH.c5;by_cases q0:ts.length=0
 .have fo:bk ts.length ag= -1:=by unfold bk;rw [aE q0]
  rw [fo];go_wp2;go_ret;exact⟨rfl,dJ.idle fH U E h1 h2 hc ux⟩
 .obtain⟨j,hj,Yd⟩:=Tn (show 0<ts.length by omega) ag;rw [Yd];have YQ:¬(j:Int)<0:=by omega
  have Yt:(j:Int)<(ts.length:Int):=by omega
  obtain⟨J,K,I,R,Q,H,D,Y,k1,k2,k3⟩:=fH.tx U hj;obtain⟨g3,cp3,Tp,t3⟩:=vC (i:=j) fH.o3 (by rw [Bd,Q];rfl);obtain⟨g4,cp4,Tq,t4⟩:=vC (i:=j) fH.o4 (by rw [Bd,H];rfl);rw [Tp] at e4;rw [Tq,U.tl] at e5;have Br:rs[K.i]? =some R:=by rw [k1];exact Y
  clear Yd q0;rcases Ep with rfl|rfl|rfl|rfl|rfl|rfl|rfl
  .have I8:∀(x0 x1 x2 x3 x4:Int) (wx:World),(Instr.field 65 (.agg #[iV x0,iV x1,iV x2,iV x3,iV x4]) 0).run prog wx= .ok (iV x0) wx:=λ_ _ _ _ _ _=>by kernel_rfl
   have e0:=fH.c0;have L9:=U.inv.p6;have nY:=U.cs R (gu Y);have hld:(ld BB d).length<=140737488355328:=by
    have a1:=(wL w (aa.ah A (bi _ _))).1;rcases Tx (B:=BB) (d:=d) with a2|a2 <;> omega
   have Bj:=Ll (B:=BB) wX;have XR:=wL;have rB:∀g,F g\/P g->g<V.heap.size:=λg a=>a.elim (fH.pw.d.lt g) (fH.pw.lt g);have Fg:=rB;have Y9:∀g,F2 g\/X g->g<V.heap.size:=λg a=>a.elim (fH.rw.e.lt g) (fH.rw.lt g);have HXl:=Y9;have AJ:=fH.pw.K6 Q D;have mT:=OW (G:=I.G) (S:=S) (b:=Z) (d:=ld BB d) AJ.ch.ok AJ.kb;obtain⟨_,_,_,_,⟨pt,pn'⟩,_⟩:=fH.pw.tx J (gu Q);clear dV0 dV2 wL rB Y9 AJ;obtain⟨y0,y1,y2,y3,y4,y5,y6,y7,y8⟩:=iT Uu;go_wp2_with fail;refine(lB 4 ag Z BB da dn dc pa pn pc x y z d V (XR V (aa.ah A ux)) DM).mono ?_;rintro e V1 ⟨g1,rfl,o8,Yj,aq⟩;have OX:=fH.later aq;have e01:=OX.c0;obtain⟨IU,cN,HW1,Cu⟩:=cM (B.qQ OX.pw.d (by omega) (by omega)) aq OX Yj;clear aq OX Yj y0 y1 y2 y3 y4 y5 y6 y7 y8 e0;go_wp2_with fail;refine IU.mono ?_;rintro e C ⟨rr,rfl,JY,cC,aW⟩;have gY:=HW1.prog (HW1.pw.lA (λg h=> .inl h) cC (aa.ah F aW)) (aa.ah _ aW) (λg h=> .inl h) rfl rfl;have lL:=Cu.agree (aW.block g1 Cu.lt);have sB:=VF (gY.pw.EF D) (gY.pw.K6 Q D) Z (some (aD g1 0)) (ld BB d).length (ld BB d).length (ld BB d) lL.src hld Bj (by omega);have aaV:=cN.trans (aW.mono cN.size);have Ty:=(aaV.block w.heap.size (by omega)).trans Uu;obtain⟨z2,eV,zc,dE,Vc⟩:=ey (bH Ty) gY lL aaV Ty;clear IU cC aW gY lL aaV Ty e01;unfold zP at sB;have HPu:=(λ(V4:World) (ts2:List PT) (c2:Nat) (ga:Nat) (hw:W5 V4 q F P F2 X O p r s S S c2 v1 v2 v3 v4 ss ts2 rs us) (aY:ay V4 5 ga (ld BB d).length (bs (ld BB d)))=>R3 hw.rw.e (hw.rw.jI Y) (hw.rw.oV H Br) Z (some (aD ga 0)) (ld BB d).length (ld BB d).length (ld BB d) aY.src hld Bj (by omega) (by omega));unfold fA at HPu;rw [k2,k3] at HPu;generalize akS:J.T.put I.G S Z (ld BB d)=Pu at*;clear akS;go_wp2_with fail;refine sB.mono ?_;rintro e V3 ⟨rfl,Iz,Tz,hd3,aV⟩;have oQ:aa (λg=>F g\/P g) C V3:=aV.mono (λg a=>by rcases a with a|a|a;exact .inl a;exact .inr (a▸pt);exact .inr (a▸pn'));have gW:=eV.prog (eV.pw.aft D Q Iz Tz mT.2.2 hd3 aV) oQ (λg h=> .inl h) rfl (fV (f:=λJ:PT=>pV J.t) Q rfl);have TA:=(oQ.block w.heap.size (aw Vc) (λv=>tW (E _ (by rcases v with v|v;exact .inl v;exact .inr (.inl v))))).trans Vc;have ml:=zc.agree (oQ.block g1 zc.lt (λv=>by have:=Fg g1 v;omega));obtain⟨y0,y1,y2,y3,y4,y5,y6,y7,y8⟩:=iT TA;have BS:=((aa.ah A ux).trans (aa.ah (λ_=>False) dE) (λ_ h=>h.elim)).trans oQ (λg a=> .inl (E g (by rcases a with a|a;exact .inl a;exact .inr (.inl a))));obtain⟨akT,HW3,Vf,I9,HA3,kO⟩:=kQ (lB 4 ag Z BB da dn dc pa pn pc x y z d V3 (XR V3 BS) DM) gW TA ml BS (jQ dE.size oQ.size);clear sB Iz Tz hd3 aV oQ gW TA ml BS z2;have j7:=ai (bi V3.heap.size V3);have afx:=lB 4 ag Z BB da dn dc pa pn pc x y z d V3.drew (XR V3.drew (HA3.trans (aa.ah (λ_=>False) j7) (λ_ h=>h.elim))) DM;have sH:=j7;have hzd:V3.drew.heap.size=V3.heap.size:=rfl;clear akT j7;go_wp2_with fail;go_region_held3 (λw'=>w'.cell? (aD w.heap.size 0)=some (iV 4)/\w'.cell? (aD w.heap.size 1)=some (iV ag)/\w'.cell? (aD w.heap.size 2)=some (iV Z)/\w'.cell? (aD w.heap.size 3)=some (iV BB)/\w'.cell? (aD w.heap.size 4)=some (.slice da dn dc)/\w'.cell? (aD w.heap.size 5)=some (.slice pa pn pc)/\w'.cell? (aD w.heap.size 6)=some (iV x)/\w'.cell? (aD w.heap.size 7)=some (iV y)/\w'.cell? (aD w.heap.size 8)=some (iV z))
    (first|exact⟨y0,y1,y2,y3,y4,y5,y6,y7,y8⟩|exact HZ4|exact HZ5)
    (first
     |(go_at_call 80;refine afx.mono ?_;rintro e V4 ⟨g4',rfl,Gi,Mw,nL⟩;have fe:=sH.trans (nL.mono (bP _));have su:=HW3.later fe;have ub:=HPu V4 _ _ g4' su Mw;have Yk:=(fe.block w.heap.size (aw Vf)).trans Vf;have HZ4:=(iT Yk);have IW:=su;have Xt:=Yk;have jB:=fe)
     |(go_at_call 82;refine ub.mono ?_;rintro e V5 ⟨rfl,⟨tv',KB,WI,afy⟩,dX⟩;have HZ5:=(iT ((dX.block w.heap.size (aw Xt) (λv=>tW (E _ (.inr (.inr (.inr (.inl (by rcases v with v|v;exact v▸(IW.rw.oV H Br).xt;exact(IW.rw.oV H Br).pl.row _ v)))))))).trans Xt))))
   obtain⟨Vo,HA4,vS,iU⟩:=cM ((I9.agree (jB.block g1 I9.lt))) ((HA3.trans (aa.ah (λ_=>False) jB) (λ_ h=>h.elim))) jB.size (IW.rw.oV H Br);have afz:=IW.rw.K9 Br H (K':={K with T:=Pu.2,tv:=tv',us:=KB}) rfl rfl (X':=more X V4 V5) (λg h=> .inl h) (λg h=>h) (by rw [k3];exact WI) afy dX (λg a=>a.elim (λh=>iP (IW.rw.lt g h) dX.size) (λh=>h.2));have mQ:aa (λg=>F2 g\/X g) V4 V5:=dX.mono (λg e=> .inr (by rcases e with e|e;exact e▸iU.xt;exact iU.pl.row g e));have Py:=IW.doc afz mQ (λg h=> .inl h) (λg h=>h) rfl (fV (f:=λJ:RJ=>pV J.u) H rfl);have hL5:=U.upd (I':=I) (R':=R) (J':={J with T:=Pu.2}) (K':={K with T:=Pu.2,tv:=tv',us:=KB}) (M:=N+2) D Y Q H rfl rfl rfl rfl rfl k3 rfl (.inl ⟨mT.1,rfl⟩) (by omega) (by rw [mD D];exact U.inv.more (by omega)) (by omega) (λhe=>by
    have Yl:=mT.1.symm.trans he;have a0:=U.ct J.i R K Y (gu H) k1 (by rw [k2];exact Yl);have a3:=iU.pu (by rw [k2];exact Yl);have a5:=mT.2.1;rw [(WI.pu he),p9 (ms:= []) rD WI.nd (λ_ _=>rfl),<-k2,a3,(p9 (ms:= []) rD iU.nd (λ_ _=>rfl))] at a5;have a6:([]:CM).length=0:=rfl;show R.ps.length+KB.length<=_;omega) (.inl rfl) rfl
   rw [mD D,mD Y] at hL5;have Ym:=(mQ.block w.heap.size (aw Xt) (λv=>tW (E _ (by rcases v with v|v;exact .inr (.inr (.inl v));exact .inr (.inr (.inr (.inl v))))))).trans Xt;have Yn:=Vo.agree (mQ.block g1 Vo.lt (λv=>by have:=HXl g1 v;omega));obtain⟨y0,y1,y2,y3,y4,y5,y6,y7,y8⟩:=iT Ym;have aaW:=HA4.trans mQ (λg a=> .inl (E g (by rcases a with a|a;exact .inr (.inr (.inl a));exact .inr (.inr (.inr (.inl a))))));obtain⟨afA,Tk,HL5,HR5,HA5,qE⟩:=kQ (lB 4 ag Z BB da dn dc pa pn pc x y z d V5 (XR V5 aaW) DM) Py hL5 Yn aaW mQ.size;clear ub WI afy dX iU afz mQ Py hL5 Ym Yn aaW;go_wp2_with fail;refine afA.mono ?_;rintro e V6 ⟨g6,rfl,hg6,vY,ny⟩;have km:=pb (some (aD g1 0)) (some (aD g6 0)) (ld BB d).length (ld BB d).length (ld BB d).length (ld BB d) V6 hld (HR5.agree (ny.block g1 HR5.lt)).src vY.src;have wO:=ny;clear afA vY ny y0 y1 y2 y3 y4 y5 y6 y7 y8;go_wp2_with fail;refine bE km λV7 vU=>?_;have aaX:=wO.trans (vU.mono wO.size);have hW7:=Tk.later aaX;obtain⟨IB,e07,HW7,Fk⟩:=cM (B.qQ hW7.pw.d (by omega) (by omega)) hW7.c0 hW7 aaX;clear km vU aaX hW7;go_wp2_with fail;refine IB.mono ?_;rintro e V8 ⟨r8,rfl,hr8,nU,BD⟩;have hW8:=HW7.prog (HW7.pw.lA (λg h=> .inl h) nU (aa.ah F BD)) (aa.ah _ BD) (λg h=> .inl h) rfl rfl;have d6:(r8:Int)<=(rr:Int)+1:=(by omega);have akW:=ux.size;have HF:(dJ w V8 q A p r s N):=⟨λg=>A g\/w.heap.size<=g,⟨F,P,F2,more X V4 V5,O,S,r8,v1,v2,v3,v4,ss,_,rs,_,hW8,HL5,λg a=>(by
     rcases a with a|a|a|(a|a)|a
     .exact .inl (E g (.inl a))
     .exact .inl (E g (.inr (.inl a)))
     .exact .inl (E g (.inr (.inr (.inl a))))
     .exact .inl (E g (.inr (.inr (.inr (.inl a)))))
     .exact .inr (by omega)
     .exact .inl (E g (.inr (.inr (.inr (.inr a)))))),by omega,by rw [List.length_set];omega,by omega⟩,(HA5.trans (aa.ah (λ_=>False) Fk) (λ_ h=>h.elim)).trans (aa.ah (λ_=>False) BD) (λ_ h=>h.elim),λ_ h=>h⟩
   clear IB nU BD hW8;go_wp2;go_ret;exact⟨by simp,HF⟩
  .have I8:∀(x0 x1 x2 x3 x4:Int) (wx:World),(Instr.field 65 (.agg #[iV x0,iV x1,iV x2,iV x3,iV x4]) 0).run prog wx= .ok (iV x0) wx:=λ_ _ _ _ _ _=>by kernel_rfl
   have e0:=fH.c0;have L9:=U.inv.p6;have nY:=U.cs R (gu Y);have IU:=B.qQ fH.pw.d (by omega) (by omega);have mL:J.T.refusal I.G S Z=0->(J.T.jN I.G S Z.toNat).length=512:=λhz=>by
    obtain⟨_,_,_,h4,h5⟩:=iK hz;exact zM (fH.pw.EF D) (fH.pw.K6 Q D) Z.toNat (by omega)
   by_cases qc:J.T.refusal I.G S Z=0
   .have aso:=mL qc;go_wp2_with fail;refine IU.mono ?_;rintro e C ⟨rr,rfl,JY,cC,aW⟩;have gY:=fH.prog (fH.pw.lA (λg h=> .inl h) cC (aa.ah F aW)) (aa.ah _ aW) (λg h=> .inl h) rfl rfl;obtain⟨vQ,e42,aaY,eV,dE⟩:=ey (D5 (gY.pw.EF D) (gY.pw.K6 Q D) Z (by omega)) (di (aa.ah (λ_=>False) aW) (λh=>h) e4) (di (aa.ah (λ_=>False) aW) (λh=>h) dV2) gY aW;clear IU cC aW gY;go_wp2_with fail;refine vQ.mono ?_;rintro e V3 ⟨ho,hd3,aV⟩;unfold vk at ho;rw [aA (λh=>h qc)] at ho;obtain⟨g3',rfl,asq,aZ⟩:=ho;have IA:=eV.pw.lA (λg h=> .inl h) hd3 aV;have hkF:aa (λg=>F g\/P g) C V3:=aV.mono (λg h=> .inl h);have gW:=eV.prog IA hkF (λg h=> .inl h) rfl rfl;have mI:=Ae gW.rw.e (gW.rw.jI Y) (gW.rw.oV H Br) Z (by omega) (by omega);rw [k2,k3] at mI;have akX:=di aV (λv=>tW (E _ (.inl v))) aaY;have HW3:=gW;have ma:=aV;clear vQ hd3 aV IA hkF gW;go_wp2_with fail;refine mI.mono ?_;rintro e V4 ⟨ho,fe⟩;unfold qT at ho;rw [aA (λh=>h qc)] at ho;obtain⟨g4',rfl,asr,ub⟩:=ho;have km:=pb (some (aD g3' 0)) (some (aD g4' 0)) 512 512 512 (J.T.jN I.G S Z.toNat) V4 (by omega) (by
     have h9:=(aZ.au (fe.block g3' aZ.lt)).src (o:=0) (n:=512) (by omega);rwa [List.drop_zero,nh (by omega)] at h9) (by have h9:=ub.src;rwa [mL qc] at h9)
    have jB:=fe;have IW:=HW3.later fe;clear mI fe;go_wp2_with fail;refine bE km λV5 ff=>?_;have Py:=IW.later ff;obtain⟨IB,e05,Tk,jd⟩:=cM (B.qQ Py.pw.d (by omega) (by omega)) Py.c0 Py ff;clear km ff Py;go_wp2_with fail;refine IB.mono ?_;rintro e V6 ⟨r6,rfl,FB,po,ny⟩;have Fe:=Tk.prog (Tk.pw.lA (λg h=> .inl h) po (aa.ah F ny)) (aa.ah _ ny) (λg h=> .inl h) rfl rfl;have d6:(r6:Int)<=(rr:Int)+1:=(by omega);have HF:(dJ w V6 q A p r s N):=⟨A,⟨F,P,F2,X,O,S,r6,v1,v2,v3,v4,ss,ts,rs,us,Fe,U.more (by omega),E,by omega,by omega,by omega⟩,((((((aa.ah A ux).trans (aa.ah (λ_=>False) dE) (λ_ h=>h.elim)).trans ma (λg a=> .inl (E g (.inl a)))).trans (aa.ah (λ_=>False) jB) (λ_ h=>h.elim)).trans (aa.ah (λ_=>False) jd) (λ_ h=>h.elim)).trans (aa.ah (λ_=>False) ny) (λ_ h=>h.elim)),λ_ h=> .inl h⟩;clear IB po ny Fe;go_wp2;go_ret;exact⟨by simp,HF⟩
   .have hqq:=qc;go_wp2_with fail;refine IU.mono ?_;rintro e C ⟨rr,rfl,JY,cC,aW⟩;have gY:=fH.prog (fH.pw.lA (λg h=> .inl h) cC (aa.ah F aW)) (aa.ah _ aW) (λg h=> .inl h) rfl rfl;obtain⟨vQ,e42,aaY,eV,dE⟩:=ey (D5 (gY.pw.EF D) (gY.pw.K6 Q D) Z (by omega)) (di (aa.ah (λ_=>False) aW) (λh=>h) e4) (di (aa.ah (λ_=>False) aW) (λh=>h) dV2) gY aW;clear IU cC aW gY;go_wp2_with fail;refine vQ.mono ?_;rintro e V3 ⟨ho,hd3,aV⟩;unfold vk at ho;rw [aE qc] at ho;subst ho;have IA:=eV.pw.lA (λg h=> .inl h) hd3 aV;have hkF:aa (λg=>F g\/P g) C V3:=aV.mono (λg h=> .inl h);have gW:=eV.prog IA hkF (λg h=> .inl h) rfl rfl;have mI:=Ae gW.rw.e (gW.rw.jI Y) (gW.rw.oV H Br) Z (by omega) (by omega);rw [k2,k3] at mI;have akX:=di aV (λv=>tW (E _ (.inl v))) aaY;have HW3:=gW;have ma:=aV;clear vQ hd3 aV IA hkF gW;go_wp2_with fail;refine mI.mono ?_;rintro e V4 ⟨ho,fe⟩;unfold qT at ho;rw [aE qc] at ho;subst ho;have km:Calls prog 21 #[.slice none 0 0, .slice none 0 0] V4 λe w'=>e= .returned (.bool true)/\bW V4 w':=(BX none none 0 0 V4).mono (by rintro e w' ⟨rfl,rfl⟩;exact⟨rfl,bi _ _⟩);have jB:=fe;have IW:=HW3.later fe;clear mI fe;go_wp2_with fail;refine bE km λV5 ff=>?_;have Py:=IW.later ff;obtain⟨IB,e05,Tk,jd⟩:=cM (B.qQ Py.pw.d (by omega) (by omega)) Py.c0 Py ff;clear km ff Py;go_wp2_with fail;refine IB.mono ?_;rintro e V6 ⟨r6,rfl,FB,po,ny⟩;have Fe:=Tk.prog (Tk.pw.lA (λg h=> .inl h) po (aa.ah F ny)) (aa.ah _ ny) (λg h=> .inl h) rfl rfl;have d6:(r6:Int)<=(rr:Int)+1:=(by omega);have HF:(dJ w V6 q A p r s N):=⟨A,⟨F,P,F2,X,O,S,r6,v1,v2,v3,v4,ss,ts,rs,us,Fe,U.more (by omega),E,by omega,by omega,by omega⟩,((((((aa.ah A ux).trans (aa.ah (λ_=>False) dE) (λ_ h=>h.elim)).trans ma (λg a=> .inl (E g (.inl a)))).trans (aa.ah (λ_=>False) jB) (λ_ h=>h.elim)).trans (aa.ah (λ_=>False) jd) (λ_ h=>h.elim)).trans (aa.ah (λ_=>False) ny) (λ_ h=>h.elim)),λ_ h=> .inl h⟩;clear IB po ny Fe;go_wp2;go_ret;exact⟨by simp,HF⟩
  .have bt:=nI (fH.pw.EF D) (fH.pw.K6 Q D);have Lm:=λ(C:World) (hb:bW V C)=>j5 (fH.later hb).rw.e ((fH.later hb).rw.jI Y) ((fH.later hb).rw.oV H Br).tx;rw [k2,k3] at Lm;have Om:=Lm;clear Lm;go_wp2_with fail;refine bE bt λC aW=>?_;have fb:=Om C aW;have dE:=aW;clear bt aW;go_wp2_with fail;refine bE fb λV3 bz=>?_;have fS:=(dE.trans (bz.mono dE.size));clear fb bz;go_wp2;go_ret;exact⟨by simp,dJ.idle (fH.later fS) U E h1 h2 hc (ux.trans (fS.mono ux.size))⟩
  .have hsp:=CG (fH.pw.EF D) (fH.pw.K6 Q D) Z;have HSp:=(λ(C:World) (hw:W5 C q F P F2 X O p r s S S c v1 v2 v3 v4 ss (ts.set j {J with T:=(J.T.my I.G S Z).2}) rs us)=>Kn hw.rw.e (hw.rw.jI Y) (hw.rw.oV H Br).tx Z);have mO:(J.T.my I.G S Z).2.ended=J.T.ended/\(J.T.my I.G S Z).2.puts=J.T.puts:=by
    unfold TG.my;split
    .exact⟨rfl,rfl⟩
    .split <;> exact⟨rfl,rfl⟩
   rw [k2,k3] at HSp;generalize J.T.my I.G S Z=Sp at*;go_wp2_with fail;refine fk hsp λC aW I2=>?_;have AJ:=fH.pw.K6 Q D;have aX:aa (λg=>g=J.t\/g=J.n) V C:=I2.mono (λ_ h=> .inl h);have i8:=fH.pw.K9 D Q (T':=Sp.2) aW (by rw [mO.2];exact AJ.ch.au I2 (λe=>AJ.tn e.symm)) (by rw [mO.2];exact AJ.kb) aX;obtain⟨_,_,_,_,⟨pt,pn'⟩,_⟩:=fH.pw.tx J (gu Q);have oQ:aa (λg=>F g\/P g) V C:=I2.mono (λg e=> .inr (e▸pt));have gY:=fH.prog i8 oQ (λg a=> .inl a) rfl (fV (f:=λJ:PT=>pV J.t) Q rfl);have fb:=HSp C gY;have ast:=di oQ (λv=>tW (E _ (by rcases v with v|v;exact .inl v;exact .inr (.inl v)))) dV2;have eV:=gY;have gQ:=oQ;clear hsp aW I2 aX i8 oQ gY;go_wp2_with fail;refine fk fb λV3 bz aV=>?_;have iU:=eV.rw.oV H Br;have lW:=eV.rw.K9 Br H (K':={K with T:=Sp.2}) rfl rfl (λg h=>h) (λg h=> .inl h) ⟨bz,iU.xt,iU.pl.other iU.tx (by decide) (by decide) aV,iU.nd,λhe=>by
    show Sp.2.puts=_;rw [mO.2,<-k2];exact iU.pu (by rw [k2,<-mO.1];exact he),iU.kb,iU.D6⟩ (.inl rfl) (aV.mono (λ_ h=> .inl h)) (λg a=>iP (eV.rw.lt g a) aV.size)
   have mQ:aa (λg=>F2 g\/X g) C V3:=aV.mono (λg e=> .inr (e▸iU.xt));have gW:=eV.doc lW mQ (λg h=> .inl h) (λg h=> .inl h) rfl (fV (f:=λJ:RJ=>pV J.u) H rfl);have wu:=U.K9 (J':={J with T:=Sp.2}) (K':={K with T:=Sp.2}) Q H rfl rfl rfl rfl mO.1 (by show K.us.length<=_;omega);have mE:=((aa.ah A ux).trans gQ (λg a=> .inl (E g (by rcases a with a|a;exact .inl a;exact .inr (.inl a))))).trans mQ (λg a=> .inl (E g (by rcases a with a|a;exact .inr (.inr (.inl a));exact .inr (.inr (.inr (.inl a))))));have HF:(dJ w V3 q A p r s N):=⟨A,⟨F,P,F2,X,O,S,c,v1,v2,v3,v4,ss,_,rs,_,gW,wu.more (by omega),E,by omega,by rw [List.length_set];omega,by omega⟩,mE,λ_ h=> .inl h⟩;clear fb bz aV iU lW mQ gW wu mE;go_wp2;go_ret;exact⟨by simp,HF⟩
  .by_cases qs:J.T.state I.G S=0
   .obtain⟨L9,cZ,jO,AJ,uE,iU,nY⟩:=nW U.inv.p6 U.inv.pO (fH.pw.EF D) (fH.pw.K6 Q D) (fH.rw.jI Y) (fH.rw.oV H Br) (U.cs R (gu Y));have hi:(ss.map (λI=>I.G.L))[J.i]? =some I.G.L:=(by rw [Bd,D];rfl);have WJ:∀q∈I.G.ov,I.G.y.home+q.1<s/\q.2.length=512/\Bytes q.2:=λx v=>by
     have a1:=jO.kb x v;have a2:=jO.hs;exact⟨by omega,(jO.ch.len x v).2⟩
    have BE:I.G.L.f+2+I.G.L.n<=I.G.y.home:=(by have:=uE.lh;rw [k3] at this;exact this);have dP:=λhu=>by
     obtain⟨hd,hb⟩:=C6 hu;obtain⟨ha,hf⟩:=Lb hd;exact((U.inv.al I.G.L (gu hi) ha hf).1 hb).2
    obtain⟨f1,hinv,dI,mO,f5⟩:=BR (T:=J.T) U.inv hi jO.bg WJ jO.ch.small BE (λx v=>(AJ.ch.len x v).2.2) qs;have EG:=K3 (T:=J.T) (G:=I.G) (S:=S) (s:=s) (λx v=>(WJ x v).1) (by have:=jO.lk.n1;omega) (by have:=jO.lk.s;omega);have ZE:J.T.puts.length<=16:=by
     have a1:=iU.pu (by rw [k2];exact mO);have a3:=iU.D6;rw [<-k2,a1,(p9 (ms:= []) rD iU.nd (λ_ _=>rfl))];show 0+_<=_;omega
    have VD:=U.ct J.i R K Y (gu H) k1 (by rw [k2];exact mO);have D4:=Kv jO AJ ZE cZ (by omega);have HCm:=(λ(C:World) (F3:Nat->Prop) (S':DS) (c2:Nat) (WK:List PI) (ts2:List PT) (hw:W5 C q F3 P F2 X O p r s S' S c2 v1 v2 v3 v4 WK ts2 rs us)=>Hf hw.rw.e (hw.rw.jI Y) (hw.rw.oV H Br) (hw.rw.r3 R (gu Y) K (gu H)) cZ (by rw [k3];exact dP) (by omega) (by omega));have Bc:=hinv;have aaZ:=dI;rw [k3,k2] at HCm;unfold RR at D4;unfold gX at HCm;have hPu:(J.T.bF I.G S s).2.2.2.ended=J.T.ended/\(J.T.bF I.G S s).2.2.1.busy=I.G.busy\/J.T.ended=false/\(J.T.bF I.G S s).2.2.2.ended=true/\(J.T.bF I.G S s).2.2.1.busy=false:=f5.imp (λh=>⟨by rw [h.1],h.2⟩) (λh=>⟨mO,by rw [h.1];rfl,h.2⟩);clear hinv dI WJ BE dP uE cZ iU f5 qs ZE;generalize J.T.bF I.G S s=Cm at*;go_wp2_with fail;refine D4.mono ?_;rintro e C ⟨rfl,⟨kZ,Af⟩,aX⟩;obtain⟨_,_,_,⟨pq,pl,pm⟩,_⟩:=fH.pw.st I (gu D);obtain⟨_,_,_,_,⟨pt,pn'⟩,_⟩:=fH.pw.tx J (gu Q);have i8:=fH.pw.on D Q rfl (G':=Cm.2.2.1) (T':=Cm.2.2.2) f1 (λg h=>h) kZ Af.tx Af.ch Af.kb (aX.mono (λg a=>by rcases a with a|a|a|a|a|a;exact .inl a;exact .inr (.inr (.inl a));exact .inr (.inr (.inr (.inl a)));exact .inr (.inr (.inr (.inr (.inl a))));exact .inr (.inr (.inr (.inr (.inr a))));exact .inr (.inl a)));have oQ:aa (λg=>F g\/P g) V C:=aX.mono (λg a=>by rcases a with a|a|a|a|a|a;exact .inl a;exact .inr (a▸pl);exact .inr (a▸pm);exact .inr (a▸pt);exact .inr (a▸pn');exact .inr (a▸pq));have gY:=fH.prog i8 oQ (λg h=>h) (fV (f:=λI:PI=>pV I.q) D rfl) (fV (f:=λJ:PT=>pV J.t) Q rfl);have fb:=HCm C _ _ _ _ _ gY;have eV:=gY;have gQ:=oQ;clear D4 kZ Af aX i8 oQ gY jO AJ;go_wp2_with fail;refine fb.mono ?_;rintro e V3 ⟨F4,X4,pv',ZY,hm',rfl,hF4,hX4,hX5,xS,EI,Iz,⟨gZ,iR⟩,TX,aV⟩;have uE:=eV.rw.jI Y;have iU:=eV.rw.oV H Br;have lW:=eV.rw.on Y H k1 (I':={R with G:=Cm.2.2.1,pv:=pv',ps:=ZY,hm:=hm'}) (J':={K with T:=Cm.2.2.2}) rfl rfl (f1.trans (by rw [k3])) rfl rfl xS hX5 hX4 EI Iz TX (.inl rfl) (λg a v=>by
     rcases TX with TX|TX
     .have Rh:pv'.ownBlock=some g:=a;rw [TX] at Rh;exact eV.rw.r3 R (gu Y) K (gu H) g Rh v
     .have a1:=TX g a;have a2:=eV.rw.lt g (iU.pl.row g v);omega) (aV.mono (λg a=>by rcases a with a|a|a|a|a;exact .inl a;exact .inr (.inl a);exact .inr (.inr (.inl a));exact .inr (.inr (.inr (.inl a)));exact .inr (.inr (.inr (.inr (.inl a)))))) (aaZ.imp id (λh n M hM dG=>by
     obtain⟨A',hA'⟩:∃A',ss[n]? =some A':=⟨ss[n]'(by rw [<-U.sl];exact(mG.1 hM).1),List.getElem?_eq_getElem _⟩;have:=h n A'.G.L (by rw [Bd,hA'];rfl) dG;rw [U.sg n A' M hA' hM];exact this))
    have mQ:aa (λg=>F2 g\/X g) C V3:=aV.mono (λg a=>by rcases a with a|a|a|a|a;exact .inl a;exact .inr (a▸uE.xk);exact .inr (a▸uE.xl);exact .inr (a▸iU.xt);exact .inr (uE.pl.row g a));have wu:=U.upd (I':={I with G:=Cm.2.2.1}) (R':={R with G:=Cm.2.2.1,pv:=pv',ps:=ZY,hm:=hm'}) (J':={J with T:=Cm.2.2.2}) (K':={K with T:=Cm.2.2.2}) (M:=N+2) D Y Q H rfl rfl rfl rfl rfl rfl rfl hPu (by omega) (by rw [List.map_set];exact Bc.more (by omega)) (by show ZY.length<=_;omega) (λhe=>by
     have a1:=iR he;subst a1;show R.ps.length+K.us.length<=_;omega) (.inr mO) EG
    have mE:=((aa.ah A ux).trans gQ (λg a=> .inl (E g (by rcases a with a|a;exact .inl a;exact .inr (.inl a))))).trans mQ (λg a=> .inl (E g (by rcases a with a|a;exact .inr (.inr (.inl a));exact .inr (.inr (.inr (.inl a))))));have ef:=ux.size;have ju:=gQ.size;have HF:(dJ w V3 q A p r s N):=⟨λg=>A g\/w.heap.size<=g,⟨more F V C,P,F4,X4,O,_,c+40,v1,v2,v3,v4,_,_,_,_,eV.doc lW mQ hF4 hX4 (fV (f:=λI:RI=>pV I.k) Y rfl) (fV (f:=λJ:RJ=>pV J.u) H rfl),wu,λg a=>(by
     rcases a with (a|a)|a|a|a|a
     .exact .inl (E g (.inl a))
     .exact .inr (by omega)
     .exact .inl (E g (.inr (.inl a)))
     .rcases hF4 g a with a|a
      .exact .inl (E g (.inr (.inr (.inl a))))
      .exact .inr (by omega)
     .rcases hX4 g a with a|a
      .exact .inl (E g (.inr (.inr (.inr (.inl a)))))
      .exact .inr (by omega)
     .exact .inl (E g (.inr (.inr (.inr (.inr a)))))),by rw [List.length_set];omega,by rw [List.length_set];omega,by omega⟩,mE,λ_ h=>h⟩
    clear fb hF4 hX4 hX5 xS EI Iz gZ iR TX aV lW mQ wu mE;go_wp2;go_ret;exact⟨by simp,HF⟩
   .have D4:=OT (fH.pw.EF D) (fH.pw.K6 Q D) qs;have Lm:=λ(C:World) (hb:bW V C)=>Lc (fH.later hb).rw.e ((fH.later hb).rw.jI Y) ((fH.later hb).rw.oV H Br) (by rw [k2,k3];exact qs);rw [k2,k3] at Lm;have Om:=Lm;clear Lm qs;go_wp2_with fail;refine bE D4 λC aW=>?_;have fb:=Om C aW;have dE:=aW;clear D4 aW;go_wp2_with fail;refine bE fb λV3 bz=>?_;have fS:=dE.trans (bz.mono dE.size);clear fb bz;go_wp2;go_ret;exact⟨by simp,dJ.idle (fH.later fS) U E h1 h2 hc (ux.trans (fS.mono ux.size))⟩
  .have oz:=NU (fH.pw.EF D) (fH.pw.K6 Q D);have HAb:=(λ(C:World) (G2:SG) (WK:List PI) (ts2:List PT) (hw:W5 C q F P F2 X O p r s S S c v1 v2 v3 v4 WK ts2 rs us)=>Ko hw.rw.e (hw.rw.jI Y) (hw.rw.oV H Br).tx);have ak1:(J.T.abort I.G S).2.2.y=I.G.y/\(J.T.abort I.G S).2.2.L=I.G.L/\(J.T.abort I.G S).2.2.ov=I.G.ov/\((J.T.abort I.G S).2.1.puts=J.T.puts\/(J.T.abort I.G S).2.1.puts= [])/\(((J.T.abort I.G S).2.1=J.T/\(J.T.abort I.G S).2.2.busy=I.G.busy)\/(J.T.ended=false/\(J.T.abort I.G S).2.1.ended=true/\(J.T.abort I.G S).2.2.busy=false)):=by
    unfold TG.abort;by_cases qo:J.T.bX I.G S≠0
    .rw [aE qo];exact⟨rfl,rfl,rfl, .inl rfl, .inl ⟨rfl,rfl⟩⟩
    .rw [aA qo];refine⟨rfl,rfl,rfl, .inr rfl, .inr ⟨?_,rfl,rfl⟩⟩;unfold TG.bX at qo;cases he:J.T.ended
     .rfl
     .rw [he] at qo;exfalso;apply qo;split <;> decide
   rw [k2,k3] at HAb;obtain⟨f1,f2,f3,f4,f5⟩:=ak1;generalize J.T.abort I.G S=Ab at*;go_wp2_with fail;refine oz.mono ?_;rintro e C ⟨rfl,aW,B7,bo,I2⟩;have jO:=fH.pw.EF D;have AJ:=fH.pw.K6 Q D;obtain⟨_,_,_,⟨pq,pl,pm⟩,_⟩:=fH.pw.st I (gu D);obtain⟨_,_,_,_,⟨pt,pn'⟩,_⟩:=fH.pw.tx J (gu Q);have kZ:ig C F p s c I.q I.l I.m S Ab.2.2:=⟨jO.d.au I2 (λg a v=>by rcases v with v|v|v;exact AJ.nt (v▸a);exact AJ.nn (v▸a);exact jO.nq (v▸a)),by rw [f1];exact bo,by rw [f2];exact jO.lp.au I2 (λv=>by rcases v with v|v|v;exact AJ.tl v.symm;exact AJ.nl v.symm;exact jO.ql v.symm),by rw [f3];exact jO.ch.au I2 (λv=>by rcases v with v|v|v;exact AJ.tm v.symm;exact AJ.nm v.symm;exact jO.qm v.symm),jO.nq,jO.nl,jO.nm,jO.ql,jO.qm,jO.lm,by rw [f2];exact jO.lk,by rw [f2];exact jO.bg,by rw [f1];exact jO.hs,by rw [f3,f1];exact jO.kb⟩;have i8:=fH.pw.on D Q rfl (G':=Ab.2.2) (T':=Ab.2.1) f1 (λg a=> .inl a) kZ aW B7 (λx v=>by
    rw [f1];rcases f4 with f4|f4
    .rw [f4] at v;exact AJ.kb x v
    .rw [f4] at v;cases v) (I2.mono (λg a=>by rcases a with a|a|a;exact .inr (.inr (.inr (.inr (.inl a))));exact .inr (.inr (.inr (.inr (.inr a))));exact .inr (.inl a)))
   have oQ:aa (λg=>F g\/P g) V C:=I2.mono (λg e=> .inr (by rcases e with e|e|e;exact e▸pt;exact e▸pn';exact e▸pq));have gY:=fH.prog i8 oQ (λg a=> .inl a) (fV (f:=λI:PI=>pV I.q) D rfl) (fV (f:=λJ:PT=>pV J.t) Q rfl);have fb:=HAb C Ab.2.2 _ _ gY;have eV:=gY;have gQ:=oQ;clear oz aW B7 bo I2 kZ i8 oQ gY jO;go_wp2_with fail;refine fk fb λV3 bz aV=>?_;have iU:=eV.rw.oV H Br;have lW:=eV.rw.K9 Br H (K':={K with T:=Ab.2.1}) rfl rfl (λg h=>h) (λg h=> .inl h) ⟨bz,iU.xt,iU.pl.other iU.tx (by decide) (by decide) aV,iU.nd,λhe=>(by
    show Ab.2.1.puts=_;rcases f5 with ⟨f6,_⟩|⟨_,f6,_⟩
    .rw [f6,<-k2];exact iU.pu (by rw [k2,<-f6];exact he)
    .have Yl:Ab.2.1.ended=false:=he;rw [f6] at Yl;cases Yl),iU.kb,iU.D6⟩ (.inl rfl) (aV.mono (λ_ h=> .inl h)) (λg a=>iP (eV.rw.lt g a) aV.size)
   have mQ:aa (λg=>F2 g\/X g) C V3:=aV.mono (λg e=> .inr (e▸iU.xt));have gW:=eV.doc (lW.reG (G':=Ab.2.2) Y (by rw [f1,k3]) (by rw [f2,k3]) (by rw [f3,k3])) mQ (λg h=> .inl h) (λg h=> .inl h) (fV (f:=λI:RI=>pV I.k) Y rfl) (fV (f:=λJ:RJ=>pV J.u) H rfl);have nY:=U.cs R (gu Y);have Yo:(ss.set J.i {I with G:=Ab.2.2}).map (λI=>I.G.L)=ss.map (λI=>I.G.L):=by
    rw [List.map_set];apply mD;rw [Bd,D];show some I.G.L=some Ab.2.2.L;rw [f2]
   have wu:=U.upd (I':={I with G:=Ab.2.2}) (R':={R with G:=Ab.2.2}) (J':={J with T:=Ab.2.1}) (K':={K with T:=Ab.2.1}) (M:=N+2) D Y Q H rfl rfl rfl rfl rfl rfl rfl (f5.imp (λh=>⟨by show Ab.2.1.ended=_;rw [h.1],h.2⟩) id) (by omega) (by rw [Yo];exact U.inv.more (by omega)) (by show R.ps.length<=_;omega) (λhe=>by
    rcases f5 with ⟨f6,_⟩|⟨_,f6,_⟩
    .have:=U.ct J.i R K Y (gu H) k1 (by rw [k2,<-f6];exact he);show R.ps.length+K.us.length<=_;omega
    .have Yl:Ab.2.1.ended=false:=he;rw [f6] at Yl;cases Yl) (.inl rfl) rfl
   have mE:=((aa.ah A ux).trans gQ (λg a=> .inl (E g (by rcases a with a|a;exact .inl a;exact .inr (.inl a))))).trans mQ (λg a=> .inl (E g (by rcases a with a|a;exact .inr (.inr (.inl a));exact .inr (.inr (.inr (.inl a))))));have HF:(dJ w V3 q A p r s N):=⟨A,⟨F,P,F2,X,O,S,c,v1,v2,v3,v4,_,_,_,_,gW,wu,E,by rw [List.length_set];omega,by rw [List.length_set];omega,by omega⟩,mE,λ_ h=> .inl h⟩;clear fb bz aV iU lW mQ gW wu mE Yo AJ;go_wp2;go_ret;exact⟨by simp,HF⟩
  .have E8:=GT (fH.pw.EF D).st (fH.pw.K6 Q D);have Om:=(λ(C:World) (hb:bW V C)=>aF ((fH.later hb).rw.jI Y).st ((fH.later hb).rw.oV H Br).tx);go_wp2_with fail;refine bE E8 λC aW=>?_;obtain⟨bo,R6⟩:=Om C aW;rw [k3] at bo;have lj:=aI C (.cells #[.int .i64 (I.G.y.log:Int), .int .i64 (I.G.y.home:Int), .int .i64 (I.G.y.blocks:Int), .int .i64 (I.G.y.nodes:Int), .int .i64 (I.G.y.data:Int)] 86);have LV:=heap_alloc_new C (.cells #[.int .i64 (I.G.y.log:Int), .int .i64 (I.G.y.home:Int), .int .i64 (I.G.y.blocks:Int), .int .i64 (I.G.y.nodes:Int), .int .i64 (I.G.y.data:Int)] 86);have s0:=(R6.au (aa.ah (λ_=>False) lj) (λh=>h)).c0;have fB:=bo.later lj;have dE:=(aW.trans (lj.mono aW.size));clear E8 aW bo R6;go_wp2_with fail;generalize C.alloc (.cells #[.int .i64 (I.G.y.log:Int), .int .i64 (I.G.y.home:Int), .int .i64 (I.G.y.blocks:Int), .int .i64 (I.G.y.nodes:Int), .int .i64 (I.G.y.data:Int)] 86)=V3 at*;have HS:((λw':World=>w'.cell? (aD K.u 0)=some (pQ R.k)/\w'.cell? (aD C.heap.size 0)=some (iV (I.G.y.log:Int))/\w'.cell? (aD C.heap.size 1)=some (iV (I.G.y.home:Int))/\w'.cell? (aD C.heap.size 2)=some (iV (I.G.y.blocks:Int))/\w'.cell? (aD C.heap.size 3)=some (iV (I.G.y.nodes:Int))/\w'.cell? (aD C.heap.size 4)=some (iV (I.G.y.data:Int))/\w'.cell? (aD R.k 2)=some (iV (I.G.y.log:Int))/\w'.cell? (aD R.k 3)=some (iV (I.G.y.home:Int))/\w'.cell? (aD R.k 4)=some (iV (I.G.y.blocks:Int))/\w'.cell? (aD R.k 5)=some (iV (I.G.y.nodes:Int))/\w'.cell? (aD R.k 6)=some (iV (I.G.y.data:Int))) V3):=⟨s0,aL LV,bD LV,bH LV,fI LV,gz LV,fB.c2,fB.c3,fB.c4,fB.c5,fB.c6⟩;clear fB lj LV s0;go_region_held3 (λw'=>w'.cell? (aD K.u 0)=some (pQ R.k)/\w'.cell? (aD C.heap.size 0)=some (iV (I.G.y.log:Int))/\w'.cell? (aD C.heap.size 1)=some (iV (I.G.y.home:Int))/\w'.cell? (aD C.heap.size 2)=some (iV (I.G.y.blocks:Int))/\w'.cell? (aD C.heap.size 3)=some (iV (I.G.y.nodes:Int))/\w'.cell? (aD C.heap.size 4)=some (iV (I.G.y.data:Int))/\w'.cell? (aD R.k 2)=some (iV (I.G.y.log:Int))/\w'.cell? (aD R.k 3)=some (iV (I.G.y.home:Int))/\w'.cell? (aD R.k 4)=some (iV (I.G.y.blocks:Int))/\w'.cell? (aD R.k 5)=some (iV (I.G.y.nodes:Int))/\w'.cell? (aD R.k 6)=some (iV (I.G.y.data:Int))) (exact HS) (fail);go_wp2;go_ret;exact⟨by simp,dJ.idle (fH.later dE.drew) U E h1 h2 hc (ux.trans (dE.drew.mono ux.size))⟩
end
end
section
section
variable {w w':World} {q:Nat} {F P F2 X O A:Nat->Prop} {p r s c N:Nat} {S:DS} {v1 v2 v3 v4:Value} {ss:List PI} {ts:List PT} {rs:List RI} {us:List RJ}
theorem EJ (h:W5 w q F P F2 X O p r s S S c v1 v2 v3 v4 ss ts rs us) (hl:Lk S s N ss ts rs us) (C:∀g,(F g\/P g\/F2 g\/X g\/O g)->A g) (mc:∀g,A g->g<w.heap.size) (h1:ss.length<=N) (h2:ts.length<=N) (hc:c<=5000*N) (hN:N<=3999999990000) (Y U AA BB:Int) (da:Option Addr) (dn dc:Nat) (pa:Option Addr) (pn pc:Nat) (x y z:Int) (AD:U<=9223372036854775807) (Ep:Y=3\/Y=10\/Y=11):
  Calls prog 31 #[pV q, .agg (iO Y U AA BB da dn dc pa pn pc x y z)] w λe w'=>e= .returned (.bool true)/\dJ w w' q A p r s N:=by
 obtain⟨W,hW⟩:=bQ (w.alloc (.cells (iO Y U AA BB da dn dc pa pn pc x y z) 41));have EB:bW w W:=by rw [hW];exact(bi w.heap.size w).alloc (bP _) _
 have BP:W.heap[w.heap.size]? =some (.cells (iO Y U AA BB da dn dc pa pn pc x y z) 41 (0,0)):=by rw [hW];exact heap_alloc_new _ _
 have Hv:W.heap.size=w.heap.size+1:=by rw [hW,World.size_alloc]
 have tW:¬A w.heap.size:=λo=>by have:=mc _ o;omega
 obtain⟨a3,c3,hv3⟩:=AB h.o1;have To:=h.later EB;have d0:W.cell? (aD w.heap.size 0)=some (iV Y):=aL BP;have d1:W.cell? (aD w.heap.size 1)=some (iV U):=bD BP;have e4:=To.c2;have sd:=λk=>Az (W.drewN k) ss.length U AD (by omega);obtain⟨HW,D,CQ,Mp⟩:=cM To hl EB BP;rw [hv3] at e4;clear h hl To EB BP;go_in;go_wp2_with fail;rw [<-hW];clear hW;go_quiet (first|(go_at_call 73;refine Calls.quiet_of_same (sd _)));rename_i nq _;have hq:bW W (W.drewN nq):=below_drewN (bi _ _) nq;have fH:=(HW.later hq);have ux:=(CQ.trans (hq.mono (by omega)));have X3:(W.drewN nq).heap.size=w.heap.size+1:=Hv;have Uu:=((hq.block w.heap.size (by omega)).trans Mp);clear HW CQ Mp sd hq d0 d1 e4 Hv;generalize W.drewN nq=V at*;have dV0:V.cell? (aD w.heap.size 0)=some (iV Y):=aL Uu;have dV2:V.cell? (aD w.heap.size 2)=some (iV AA):=bH Uu;have e4:=fH.c2;have e5:=fH.c3;by_cases q0:ss.length=0
 .have fo:bk ss.length U= -1:=by unfold bk;rw [aE q0]
  rw [fo];go_wp2;go_ret;exact⟨rfl,dJ.idle fH D C h1 h2 hc ux⟩
 .obtain⟨j,hj,Yd⟩:=Tn (show 0<ss.length by omega) U;rw [Yd];have YQ:¬(j:Int)<0:=by omega
  have Yt:(j:Int)<(ss.length:Int):=by omega
  obtain⟨I,H⟩:∃I,ss[j]? =some I:=⟨ss[j],List.getElem?_eq_getElem hj⟩;obtain⟨R,E⟩:∃R,rs[j]? =some R:=⟨rs[j]'(by rw [D.sl];exact hj),List.getElem?_eq_getElem _⟩;have Q:=D.sg j I R H E;obtain⟨g3,cp3,Tp,t3⟩:=vC (i:=j) fH.o1 (by rw [Bd,H];rfl);obtain⟨g4,cp4,Tq,t4⟩:=vC (i:=j) fH.o2 (by rw [Bd,E];rfl);rw [Tp] at e4;rw [Tq,D.sl] at e5;clear Yd q0;rcases Ep with rfl|rfl|rfl
  .have Fg:=fH.under;by_cases hz:I.G.begin S=0
   .have hbz:=Le hz;have vm:=(sE (fH.pw.EF H)).mono (λe w' h=>by unfold sD at h;rw [aA (λh=>h hz)] at h;exact h);have Wg:=(λ(v:World) (WK:List PI) (J:W5 v q F P F2 X O p r s S S c v1 v2 v3 v4 WK ts rs us)=>(zN (G:=I.G) J.rw.e (by rw [<-Q];exact(J.rw.jI E).st) (by rw [<-Q];exact(J.rw.jI E).lp) (J.nowAt D H E)).mono (λe w' h=>by unfold xK at h;rw [aA (λh=>h hz)] at h;exact h));clear hz;go_wp2_with fail;refine vm.mono ?_;rintro e v ⟨t,n,rfl,mg,R6,X1,Af,sG,kZ,aX⟩;obtain⟨_,_,_,⟨pq,pl,pm⟩,_⟩:=fH.pw.st I (gu H);have jO:=fH.pw.EF H;have TC:ig v F p s c I.q I.l I.m S {I.G with busy:=true}:=⟨jO.d.au aX (λg a e=>jO.nq (e▸a)),kZ,jO.lp.au aX (λe=>jO.ql e.symm),jO.ch.au aX (λe=>jO.qm e.symm),jO.nq,jO.nl,jO.nm,jO.ql,jO.qm,jO.lm,jO.lk,jO.bg,jO.hs,jO.kb⟩;have i8:=fH.pw.onS H (G':={I.G with busy:=true}) rfl (λg h=> .inl h) TC (aX.mono (λg e=> .inr (.inl e)));have oQ:aa (λg=>F g\/P g) V v:=aX.mono (λg e=> .inr (e▸pq));have gY:=fH.prog i8 oQ (λg h=> .inl h) (fV (f:=λI:PI=>pV I.q) H rfl) rfl;obtain⟨fb,eV,gQ,HT2,Zx,Ag,mN⟩:=nW (Wg v _ gY) gY oQ Af sG (aw Af) sG.lt;clear vm Af sG kZ aX jO TC i8 oQ gY;go_wp2_with fail;refine fb.mono ?_;rintro e T ⟨u,rfl,hu3,aa0,afF,aV⟩;have uE:=eV.rw.jI E;have hRk:=Fg _ (.inr (.inr (.inr (.inl uE.xk))));have lW:=eV.rw.onS E (I':={R with G:={I.G with busy:=true},nv:=pV u}) rfl rfl (by rw [Q]) (eV.rw.e.au aV (λg a e=>eV.rw.fD g (e▸uE.xk) a)) (by
     have a:=uE;rw [Q] at a;exact⟨afF,a.lp.au aV (λe=>cU a.lp a.st (by decide) e),a.pl.au aV (λg e o=>a.pl.ne e a.st (by decide) o) (λg c ys o hr e=>hr.ne a.st (by decide) e),a.xk,a.xl,a.fD,λg o=>iP (a.lt g o) aV.size,a.lk,a.bg,a.hs,a.lh,a.ov,a.hm,a.kb,a.un⟩) rfl (aV.mono (λg e=> .inr (.inl e))) (.inl rfl)
    have mQ:aa (λg=>F2 g\/X g) v T:=aV.mono (λg e=> .inr (e▸uE.xk));have gW:=eV.doc lW mQ (λg h=> .inl h) (λg h=> .inl h) (fV (f:=λI:RI=>pV I.k) E rfl) rfl;obtain⟨Iz,hul,z1,z2⟩:=cM ((aV.block t Ag (λe=>by omega)).trans HT2) aa0.lt gQ.size aV.size;have lI:∀g,V.heap.size<=g->¬(F g\/P g\/F2 g\/X g\/O g):=λg a o=>by have:=Fg g o;omega
    obtain⟨g4',DU,V4,vX,Oa,su,dV⟩:=gW.afh (gW.pw.aaK (I:={I with G:={I.G with busy:=true}}) (List.getElem?_set_self hj) Iz (Zx.au aV (λe=>by omega)) (λo=>lI t R6 (.inr (.inl o))) (λo=>lI n mg (.inr (.inl o))) (λo=>lI t R6 (.inl o)) (λo=>lI n mg (.inl o))) (λg a o=>by
     rcases a with a|a|a
     .rcases o with o|o|o
      .exact gW.ad g (.inr a) (.inl o)
      .exact gW.ad g (.inr a) (.inr o)
      .exact gW.oa g o (.inr a)
     .exact lI g (by omega) (.inr (.inr o))
     .exact lI g (by omega) (.inr (.inr o))) (by omega)
    have hc4:=gW.c4;have q4:=gz Oa;have f4:=ae Oa 4;obtain⟨V5,hV5⟩:=bQ (V4.setCell ⟨q,4,none⟩ (.slice (some ⟨g4',0,none⟩) (ts.length+1) DU));have OU:V5.heap.size=V4.heap.size:=(by rw [hV5];simp);rw [<-hV5] at su dV;have hrT:=su.rw.aaK (I:={R with G:={I.G with busy:=true},nv:=pV u}) (List.getElem?_set_self (by rw [D.sl];exact hj)) (aa0.au dV (λo=>lI u (by omega) (.inr (.inr (.inr (.inr o)))))) (λo=>lI u (by omega) (.inr (.inr (.inr (.inl o))))) (λo=>lI u (by omega) (.inr (.inr (.inl o))));obtain⟨g5',Gj,V6,nD,nH,Fe,ji⟩:=su.afi hrT (λg a o=>by
     rcases a with a|a
     .rcases o with o|o|o
      .exact su.ad g (.inl o) (.inr a)
      .exact su.ad g (.inr o) (.inr a)
      .exact su.od g o (.inr a)
     .rcases o with o|(o|o|o)|(o|o)
      .exact lI g (by omega) (.inl o)
      .exact lI g (by omega) (.inr (.inl o))
      .omega
      .omega
      .exact lI g (by omega) (.inr (.inr (.inr (.inr o))))
      .omega) (by have:=D.tl;omega)
    have hc5:=su.c5;have q5:=rU nH;have f5:=ae nH 5;rw [OU] at nD;rw [hV5] at nD hc5;have akW:=ux.size;have z4:=dV.size;have mE:=((((aa.ah A ux).trans gQ (λg a=> .inl (C g (by rcases a with a|a;exact .inl a;exact .inr (.inl a))))).trans mQ (λg a=> .inl (C g (by rcases a with a|a;exact .inr (.inr (.inl a));exact .inr (.inr (.inr (.inl a))))))).trans dV (λg a=> .inl (C g (.inr (.inr (.inr (.inr a))))))).trans ji (λg a=>by
     rcases a with a|a
     .exact .inl (C g (.inr (.inr (.inr (.inr a)))))
     .exact .inr (by omega))
    have HF:(dJ w (V6.setCell ⟨q,5,none⟩ (.slice (some ⟨g5',0,none⟩) (us.length+1) Gj)) q A p r s N):=⟨λg=>A g\/w.heap.size<=g,⟨_,_,_,_,_,_,c,_,_,_,_,_,_,_,_,Fe,(D.begun (t:=t) (n:=n) (u:=u) (tv:= .slice none 0 0) H E hbz).more (by omega),λg a=>(by
     rcases a with a|(a|a|a)|a|(a|a)|((a|a)|a)
     .exact .inl (C g (.inl a))
     .exact .inl (C g (.inr (.inl a)))
     .exact .inr (by omega)
     .exact .inr (by omega)
     .exact .inl (C g (.inr (.inr (.inl a))))
     .exact .inl (C g (.inr (.inr (.inr (.inl a)))))
     .exact .inr (by omega)
     .exact .inl (C g (.inr (.inr (.inr (.inr a)))))
     .exact .inr (by omega)
     .exact .inr (by omega)),by rw [List.length_set];omega,by rw [dT];show ts.length+1<=_;omega,by omega⟩,mE,λ_ h=>h⟩
    have G0:=vX;have G1:=nD;clear fb aa0 afF aV uE lW mQ gW Iz lI vX Oa su dV hrT nD nH Fe ji mE;go_wp2_with (at_builtin;first|refine bj rfl _ _ 32 rfl v3 (.slice (some (aD T.heap.size 0)) 1 1) _ rfl rfl G0 ?_|refine bj rfl _ _ 33 rfl v4 (.slice (some (aD V4.heap.size 0)) 1 1) _ rfl rfl G1 ?_);go_wp2;go_ret;exact⟨rfl,HF⟩
   .have vm:=(sE (fH.pw.EF H)).mono (λe w' h=>by unfold sD at h;rw [aE hz] at h;exact h);have Wg:=(λ(v:World) (WK:List PI) (J:W5 v q F P F2 X O p r s S S c v1 v2 v3 v4 WK ts rs us)=>(zN (G:=I.G) J.rw.e (by rw [<-Q];exact(J.rw.jI E).st) (by rw [<-Q];exact(J.rw.jI E).lp) (J.nowAt D H E)).mono (λe w' h=>by unfold xK at h;rw [aE hz] at h;exact h));clear hz;generalize I.G.begin S=cd at*;go_wp2_with fail;refine fk vm λv _ aW=>?_;have gY:=fH.later aW;have fb:=Wg v _ gY;have dE:=aW;have eV:=gY;clear vm aW gY;go_wp2_with fail;refine fk fb λT _ bz=>?_;have HF:=(dJ.idle (eV.later bz) D C h1 h2 hc (ux.trans ((dE.trans (bz.mono dE.size)).mono ux.size)));clear fb bz;go_wp2;go_ret;exact⟨by simp,HF⟩
  .have L9:=D.inv.p6;have HSy:=(λ(v:World) (S':DS) (J:W5 v q F P F2 X O p r s S' S c v1 v2 v3 v4 ss ts rs us)=>Kp J.rw.e (J.rw.jI E) (by omega));rw [Q] at HSy;go_wp2_with fail;refine(N0 (fH.pw.EF H) (by omega)).mono ?_;rintro e v ⟨rfl,kZ,aX⟩;have i8:=fH.pw.lA (λg h=> .inl h) kZ.d aX;have oQ:aa (λg=>F g\/P g) V v:=aX.mono (λg h=> .inl h);have gY:=fH.prog i8 oQ (λg h=> .inl h) rfl rfl;have fb:=HSy v _ gY;have eV:=gY;have gQ:=oQ;clear kZ aX i8 oQ gY;go_wp2_with fail;refine fk fb λT xS aV=>?_;have lW:=eV.rw.lA (λg h=> .inl h) xS aV (λM hM hd=>by
    obtain⟨a1,a2⟩:=OS D.inv.ok I.G.L M.G.L hd;refine⟨a1,λb hb=>a2 _ ?_⟩;have:=(eV.rw.st M hM).hs;omega)
   have mQ:aa (λg=>F2 g\/X g) v T:=aV.mono (λg h=> .inl h);have gW:=eV.doc lW mQ (λg h=> .inl h) (λg h=> .inl h) rfl rfl;have mE:=((aa.ah A ux).trans gQ (λg a=> .inl (C g (by rcases a with a|a;exact .inl a;exact .inr (.inl a))))).trans mQ (λg a=> .inl (C g (by rcases a with a|a;exact .inr (.inr (.inl a));exact .inr (.inr (.inr (.inl a))))));have HF:(dJ w T q A p r s N):=⟨A,⟨F,P,F2,X,O,_,c,v1,v2,v3,v4,_,_,_,_,gW,D.synced H,C,by omega,by omega,by omega⟩,mE,λ_ h=> .inl h⟩;clear fb xS aV lW mQ gW mE;go_wp2;go_ret;exact⟨by simp,HF⟩
  .obtain⟨L9,cZ,jO,uE,nY⟩:=ey D.inv.p6 D.inv.pO (fH.pw.EF H) (fH.rw.jI E) (D.cs R (gu E));have hi:(ss.map (λI=>I.G.L))[j]? =some I.G.L:=(by rw [Bd,H];rfl);have WJ:∀q∈I.G.ov,I.G.y.home+q.1<s/\q.2.length=512/\Bytes q.2:=λx o=>by
    have a1:=jO.kb x o;have a2:=jO.hs;exact⟨by omega,(jO.ch.len x o).2⟩
   have BE:I.G.L.f+2+I.G.L.n<=I.G.y.home:=(by have:=uE.lh;rw [Q] at this;exact this);have dP:=λhu=>by
    obtain⟨hd,hb⟩:=C6 hu;obtain⟨ha,hf⟩:=Lb hd;exact((D.inv.al I.G.L (gu hi) ha hf).1 hb).2
   have dI:=Is D.inv hi (λx o=>⟨(WJ x o).1,(WJ x o).2.1⟩);have XN:=mz I.G S s;have EG:=Iq (G:=I.G) (S:=S) (s:=s) (λx o=>(WJ x o).1) (by have:=jO.hs;omega);have ie:=AF I.G S s;have nc:=CJ jO cZ (by omega);have Z:=(λ(v:World) (F3:Nat->Prop) (S':DS) (c2:Nat) (WK:List PI) (J:W5 v q F3 P F2 X O p r s S' S c2 v1 v2 v3 v4 WK ts rs us)=>Aj J.rw.e (J.rw.jI E) cZ (by rw [Q];exact dP) (by omega) (by omega));have Bc:=D.inv.check hi jO.bg WJ jO.ch.small BE;have aaZ:=dI;unfold ZW at Z;rw [Q] at Z;clear dI WJ BE dP uE cZ;generalize I.G.check S s=Ck at*;go_wp2_with fail;refine fk nc λv kZ aX=>?_;obtain⟨_,_,_,⟨pq,pl,pm⟩,_⟩:=fH.pw.st I (gu H);have i8:=fH.pw.onS H (G':=Ck.2.2) XN (λg h=>h) kZ (aX.mono (λg a=>by rcases a with a|a|a;exact .inl a;exact .inr (.inr (.inl a));exact .inr (.inr (.inr a))));have oQ:aa (λg=>F g\/P g) V v:=aX.mono (λg a=>by rcases a with a|a|a;exact .inl a;exact .inr (a▸pl);exact .inr (a▸pm));have gY:=fH.prog i8 oQ (λg h=>h) (fV (f:=λI:PI=>pV I.q) H rfl) rfl;have fb:=Z v _ _ _ _ gY;have eV:=gY;have gQ:=oQ;clear nc kZ aX i8 oQ gY jO;go_wp2_with fail;refine fb.mono ?_;rintro e T ⟨rfl,xS,⟨hm',EI⟩,aV⟩;have uE:=eV.rw.jI E;have lW:=eV.rw.onS E (I':={R with G:=Ck.2.2,hm:=hm'}) rfl rfl (XN.trans (by rw [Q])) xS EI rfl aV (aaZ.imp id (λh n K hK dG=>by
    obtain⟨A,C⟩:∃A,ss[n]? =some A:=⟨ss[n]'(by rw [<-D.sl];exact(mG.1 hK).1),List.getElem?_eq_getElem _⟩;have:=h n A.G.L (by rw [Bd,C];rfl) dG;rw [D.sg n A K C hK];exact this))
   have mQ:aa (λg=>F2 g\/X g) v T:=aV.mono (λg a=>by rcases a with a|a|a;exact .inl a;exact .inr (a▸uE.xk);exact .inr (a▸uE.xl));have gW:=eV.doc lW mQ (λg h=>h) (λg h=> .inl h) (fV (f:=λI:RI=>pV I.k) E rfl) rfl;have wu:=D.akE (I':={I with G:=Ck.2.2}) (R':={R with G:=Ck.2.2,hm:=hm'}) (M:=N+2) H E rfl rfl ie rfl (by omega) (by rw [List.map_set];exact Bc.more (by omega)) EG;have mE:=((aa.ah A ux).trans gQ (λg a=> .inl (C g (by rcases a with a|a;exact .inl a;exact .inr (.inl a))))).trans mQ (λg a=> .inl (C g (by rcases a with a|a;exact .inr (.inr (.inl a));exact .inr (.inr (.inr (.inl a))))));have ef:=ux.size;have ju:=gQ.size;have HF:(dJ w T q A p r s N):=⟨λg=>A g\/w.heap.size<=g,⟨more F V v,P,more F2 v T,X,O,_,c+2,v1,v2,v3,v4,_,_,_,_,gW,wu,λg a=>(by
    rcases a with (a|a)|a|(a|a)|a|a
    .exact .inl (C g (.inl a))
    .exact .inr (by omega)
    .exact .inl (C g (.inr (.inl a)))
    .exact .inl (C g (.inr (.inr (.inl a))))
    .exact .inr (by omega)
    .exact .inl (C g (.inr (.inr (.inr (.inl a)))))
    .exact .inl (C g (.inr (.inr (.inr (.inr a)))))),by rw [List.length_set];omega,by omega,by omega⟩,mE,λ_ h=>h⟩
   clear fb xS EI aV lW mQ gW wu mE;go_wp2;go_ret;exact⟨by simp,HF⟩
end
end
section
theorem dJ.from {w W w':World} {q:Nat} {A:Nat->Prop} {p r s N:Nat} (h:dJ W w' q A p r s N) (a:bW w W):dJ w w' q A p r s N:=by
 obtain⟨A',b,c,d⟩:=h;exact⟨A',b,(aa.ah (λ_=>False) a).mono (λ_ h=>h.elim) |>.trans c (λ_ h=> .inl h),λg e=>(d g e).imp id (λh=>jQ a.size h)⟩
section
variable {w w':World} {q:Nat} {F P F2 X O A:Nat->Prop} {p r s c N:Nat} {S:DS} {v1 v2 v3 v4:Value} {ss:List PI} {ts:List PT} {rs:List RI} {us:List RJ}
theorem AK (a:Int) (h:W5 w q F P F2 X O p r s S S c v1 v2 v3 v4 ss ts rs us) (t:Lk S s N ss ts rs us) (D:∀g,(F g\/P g\/F2 g\/X g\/O g)->A g) (mc:∀g,A g->g<w.heap.size) (v:ss.length<=N) (C:ts.length<=N) (G:c<=5000*N) (E:N<=3999999990000) (b d f:Int) (i:Option Addr) (k j:Nat) (l:Option Addr) (n m:Nat) (x y z:Int) (AD:b<=9223372036854775807) (Ep:a=3\/a=10\/a=11):
  Calls prog 12 #[pV q, .agg (iO a b d f i k j l n m x y z)] w λe w'=>e= .returned (.bool true)/\dJ w w' q A p r s N:=by
 have fo:=aI w (.cells (iO a b d f i k j l n m x y z) 41);have kT:(w.alloc (.cells (iO a b d f i k j l n m x y z) 41)).heap[w.heap.size]? =some (.cells (iO a b d f i k j l n m x y z) 41 (0,0)):=heap_alloc_new _ _;have tW:¬A w.heap.size:=λI=>by have:=mc _ I;omega
 obtain⟨J,K,L,M,Q,R,T,U,W⟩:=iT kT;have l7:=EJ (h.later fo) t D (λg H=>iP (mc g H) fo.size) v C G E a b d f i k j l n m x y z AD Ep;have Bb:=fo;clear h fo kT t;rcases Ep with rfl|rfl|rfl <;>
 (go_in
  go_wp2_with fail;refine bE l7 λV o=>?_;have u:=(o.from Bb);clear l7 o;go_wp2;go_ret;exact⟨rfl,u⟩)
theorem nP (a:Int) (h:W5 w q F P F2 X O p r s S S c v1 v2 v3 v4 ss ts rs us) (u:Lk S s N ss ts rs us) (E:∀g,(F g\/P g\/F2 g\/X g\/O g)->A g) (mc:∀g,A g->g<w.heap.size) (C:ss.length<=N) (D:ts.length<=N) (H:c<=5000*N) (G:N<=3999999990000) (f j k:Int) (i:Option Addr) (b l:Nat) (m:Option Addr) (o n:Nat) (x y z:Int) (AD:f<=9223372036854775807) (d:List Int) (wL:∀W,aa A w W->Src W i b d) (wX:Bytes d) (DM:b<=140737488355328) (Ep:a=4\/a=5\/a=6\/a=7\/a=8\/a=9):
  Calls prog 12 #[pV q, .agg (iO a f j k i b l m o n x y z)] w λe w'=>e= .returned (.bool true)/\dJ w w' q A p r s N:=by
 have fo:=aI w (.cells (iO a f j k i b l m o n x y z) 41);have kT:(w.alloc (.cells (iO a f j k i b l m o n x y z) 41)).heap[w.heap.size]? =some (.cells (iO a f j k i b l m o n x y z) 41 (0,0)):=heap_alloc_new _ _;have tW:¬A w.heap.size:=λK=>by have:=mc _ K;omega
 obtain⟨L,M,Q,R,T,U,Y,Z,y8⟩:=iT kT;have l7:=C7 (h.later fo) u E (λg I=>iP (mc g I) fo.size) C D H G a f j k i b l m o n x y z AD d (λW J=>wL W ((aa.ah (λ_=>False) fo).mono (λ_ h=>h.elim) |>.trans J (λ_ h=> .inl h))) wX DM (by omega);have Bb:=fo;clear h fo kT u wL wX;rcases Ep with rfl|rfl|rfl|rfl|rfl|rfl <;>
 (go_in
  go_wp2_with fail;refine bE l7 λV t=>?_;have v:=(t.from Bb);clear l7 t;go_wp2;go_ret;exact⟨rfl,v⟩)
theorem EK (h:W5 w q F P F2 X O p r s S S c v1 v2 v3 v4 ss ts rs us) (t:Lk S s N ss ts rs us) (C:∀g,(F g\/P g\/F2 g\/X g\/O g)->A g) (mc:∀g,A g->g<w.heap.size) (u:ss.length<=N) (v:ts.length<=N) (G:c<=5000*N) (D:N<=3999999990000) (b i j:Int) (f:Option Addr) (a k:Nat) (l:Option Addr) (n m:Nat) (x y z:Int) (AD:b<=9223372036854775807) (d:List Int) (wL:∀W,aa A w W->Src W f a d) (wX:Bytes d) (DM:a<=140737488355328):
  Calls prog 12 #[pV q, .agg (iO 12 b i j f a k l n m x y z)] w λe w'=>e= .returned (.bool true)/\dJ w w' q A p r s N:=by
 have fo:=aI w (.cells (iO 12 b i j f a k l n m x y z) 41);have kT:(w.alloc (.cells (iO 12 b i j f a k l n m x y z) 41)).heap[w.heap.size]? =some (.cells (iO 12 b i j f a k l n m x y z) 41 (0,0)):=heap_alloc_new _ _;have h0:=h.later fo;have tW:¬A w.heap.size:=λhx=>by have:=mc _ hx;omega
 have AL:=λg o=>iP (mc g o) fo.size;obtain⟨H,I,J,K,L,M,Q,R,T⟩:=iT kT;obtain⟨l7,Uv,Y,Yp,XR,Bb⟩:=kQ (AC h0 t C AL u v G D b i j f a k l n m x y z AD) h0 t kT wL fo;clear h fo kT t h0 wL;go_in;go_wp2_with fail;refine bE l7 λV aq=>?_;clear H I J K L M Q R T;obtain⟨H,I,J,K,L,M,Q,R,T⟩:=iT ((aq.block w.heap.size (aw Yp)).trans Yp);have afH:=C7 (Uv.later aq) Y C (λg o=>iP (AL g o) aq.size) u v G D 12 b i j f a k l n m x y z AD d (λW Z=>XR W ((((aa.ah (λ_=>False) Bb).mono (λ_ h=>h.elim):aa A w _).trans (aa.ah (λ_=>False) aq) (λ_ h=>h.elim)).trans Z (λ_ h=> .inl h))) wX DM (by omega);have cN:=(Bb.trans (aq.mono Bb.size));clear l7 aq;go_wp2_with fail;refine bE afH λV2 E=>?_;have U:=(E.from cN);clear afH E;go_wp2;go_ret;exact⟨rfl,U⟩
theorem Ln (h:W5 w q F P F2 X O p r s S S c v1 v2 v3 v4 ss ts rs us) (n:Lk S s N ss ts rs us) (C:∀g,(F g\/P g\/F2 g\/X g\/O g)->A g) (mc:∀g,A g->g<w.heap.size) (u:ss.length<=N) (v:ts.length<=N) (E:c<=5000*N) (D:N<=3999999990000) (d a b:Int) (f:Option Addr) (j i:Nat) (k:Option Addr) (m l:Nat) (x y z:Int):
  Calls prog 12 #[pV q, .agg (iO 2 d a b f j i k m l x y z)] w λe w'=>e= .returned (.bool true)/\dJ w w' q A p r s N:=by
 have fo:=aI w (.cells (iO 2 d a b f j i k m l x y z) 41);have kT:(w.alloc (.cells (iO 2 d a b f j i k m l x y z) 41)).heap[w.heap.size]? =some (.cells (iO 2 d a b f j i k m l x y z) 41 (0,0)):=heap_alloc_new _ _;have tW:¬A w.heap.size:=λH=>by have:=mc _ H;omega
 have AL:=λg G=>iP (mc g G) fo.size;obtain⟨J,K,L,M,Q,R,T,U,W⟩:=iT kT;have l7:=aaS (h.later fo) n C u v E D;have I:=n;have Bb:=fo;clear h fo kT n;go_in;go_wp2_with fail;refine bE l7 λV o=>?_;have t:=(o.from Bb);clear l7 o;go_wp2;go_ret;exact⟨rfl,t⟩
theorem Lo (h:W5 w q F P F2 X O p r s S S c v1 v2 v3 v4 ss ts rs us) (o:Lk S s N ss ts rs us) (D:∀g,(F g\/P g\/F2 g\/X g\/O g)->A g) (mc:∀g,A g->g<w.heap.size) (H:ss.length<=N) (I:ts.length<=N) (K:c<=5000*N) (J:N<=3999999990000) (j f i:Int) (l:Option Addr) (n m:Nat) (t:Option Addr) (v u:Nat) (x y z:Int):
  Calls prog 12 #[pV q, .agg (iO 15 j f i l n m t v u x y z)] w λe w'=>e= .returned (.bool true)/\dJ w w' q A p r s N:=by
 have fo:=aI w (.cells (iO 15 j f i l n m t v u x y z) 41);have kT:(w.alloc (.cells (iO 15 j f i l n m t v u x y z) 41)).heap[w.heap.size]? =some (.cells (iO 15 j f i l n m t v u x y z) 41 (0,0)):=heap_alloc_new _ _;have h0:=h.later fo;have tW:¬A w.heap.size:=λb=>by have:=mc _ b;omega
 have AL:=λg C=>iP (mc g C) fo.size;obtain⟨L,M,Q,R,T,U,W,Y,Z⟩:=iT kT;have Mb:=h0.pw.d.ok.hi;obtain⟨l7,Uv,G,Bb⟩:=cM (aaN h0.pw.d h0.rw.e (λk a b=>h0.ad k (.inl a) (.inl b)) h0.box (λb=>h0.oa q h0.oq (.inl b)) (by have:=o.inv.p6;omega) o.rf (by omega)) h0 o fo;clear h fo kT o h0;go_in;go_wp2_with fail;refine fk l7 λV hd a=>?_;have E:(dJ w V q A p r s N):=⟨A,⟨_,_,_,_,_,_,c+s,_,_,_,_,_,_,_,_,Uv.prog (Uv.pw.lA (λg h=> .inl h) hd a) (a.mono (λg h=> .inl h)) (λg h=> .inl h) rfl rfl,G.more (by omega),D,by omega,by omega,by omega⟩,(aa.ah A Bb).trans a (λg C=> .inl (D g (.inl C))),λ_ h=> .inl h⟩;clear l7 hd a;go_wp2;go_ret;exact⟨rfl,E⟩
theorem Lp (h:W5 w q F P F2 X O p r s S S c v1 v2 v3 v4 ss ts rs us) (t:Lk S s N ss ts rs us) (C:∀g,(F g\/P g\/F2 g\/X g\/O g)->A g) (u:ss.length<=N) (v:ts.length<=N) (D:c<=5000*N) (a f b d:Int) (i:Option Addr) (k j:Nat) (l:Option Addr) (n m:Nat) (x y z:Int) (Ep:a<1\/15<a):
  Calls prog 12 #[pV q, .agg (iO a f b d i k j l n m x y z)] w λe w'=>e= .returned (.bool true)/\dJ w w' q A p r s N:=by
 have fo:=aI w (.cells (iO a f b d i k j l n m x y z) 41);have kT:(w.alloc (.cells (iO a f b d i k j l n m x y z) 41)).heap[w.heap.size]? =some (.cells (iO a f b d i k j l n m x y z) 41 (0,0)):=heap_alloc_new _ _;have H:=(iT kT).1;have o:=(dJ.idle (h.later fo) t C u v D fo);clear h t fo kT;by_cases E:a<1
 .go_in;go_wp2;go_ret;exact⟨rfl,o⟩
 .have G:=Ep.resolve_left E;go_in;go_wp2;go_ret;exact⟨rfl,o⟩
end
end
section
theorem Lq {S:DS} (x:Int) (rs:List RI):Tw S (S.lay x) rs:=λR _ hd=>by
 unfold DS.lay at*;split at hd
 .rename_i h0;rw [aE h0];exact⟨hd,λ_ _=>rfl⟩
 .rename_i h0;rw [aA h0];refine⟨?_,λ_ _=>rfl⟩;unfold LG.dead;rw [Bool.or_eq_false_iff];refine⟨by rw [eG];exact h0,?_⟩;have a:R.G.L.life=S.life:=(Lb hd).1;rw [a];simp
section
variable {w w':World} {q:Nat} {F P F2 X O A:Nat->Prop} {p r s c N:Nat} {S:DS} {v1 v2 v3 v4:Value} {ss:List PI} {ts:List PT} {rs:List RI} {us:List RJ}
theorem Lr (h:W5 w q F P F2 X O p r s S S c v1 v2 v3 v4 ss ts rs us) (J:Lk S s N ss ts rs us) (l:∀g,(F g\/P g\/F2 g\/X g\/O g)->A g) (mc:∀g,A g->g<w.heap.size) (h1:ss.length<=N) (h2:ts.length<=N) (hc:c<=5000*N) (T:N<=3999999990000) (f a b:Int) (i:Option Addr) (k j:Nat) (t:Option Addr) (v u:Nat) (x y z:Int) (m:a<=9223372036854775807):
  Calls prog 12 #[pV q, .agg (iO 13 f a b i k j t v u x y z)] w λe w'=>e= .returned (.bool true)/\dJ w w' q A p r s N:=by
 have fo:=aI w (.cells (iO 13 f a b i k j t v u x y z) 41);have kT:(w.alloc (.cells (iO 13 f a b i k j t v u x y z) 41)).heap[w.heap.size]? =some (.cells (iO 13 f a b i k j t v u x y z) 41 (0,0)):=heap_alloc_new _ _;have h0:=h.later fo;have tW:¬A w.heap.size:=λo=>by have:=mc _ o;omega
 have AL:=λg n=>iP (mc g n) fo.size;obtain⟨y0,W,Y,Z,y4,y5,y6,y7,y8⟩:=iT kT;obtain⟨I,U,Uv,E,Yp,ef,Bb⟩:=nW h0.c0 h0.c1 h0 J kT (aw kT) fo;clear h fo kT J h0 W Z y4 y5 y6 y7 y8;go_in;go_wp2_with fail;generalize (w.alloc (.cells (iO 13 f a b i k j t v u x y z) 41))=H at*;have j7:=ai (bi H.heap.size H);have Uw:=Uv.later j7;have K:=B.afj Uw.pw.d a m;have Lj:=Uw;have sH:=j7;clear j7 Uw;go_region_held3 (λw'=>w'.cell? (aD q 0)=some (pV p)/\w'.cell? (aD w.heap.size 2)=some (iV a))
  (first|exact⟨I,Y⟩|exact⟨Px,C⟩)
    ((go_at_call 26;refine K.mono ?_;rintro e G ⟨rfl,cC,aX⟩;have gY:=Lj.prog (Lj.pw.lA (λg h=> .inl h) cC aX) (aX.mono (λg h=> .inl h)) (λg h=> .inl h) rfl rfl;have Px:=gY.c0;have mg:=(aX.block w.heap.size ef (λo=>tW (l _ (.inl o)))).trans ((sH.block w.heap.size ef).trans Yp);have C:=bH mg))
 obtain⟨Iw,eV,D,gQ,ju,xo⟩:=kQ gY.c1 gY mg aX (aw mg) (ai (bi G.heap.size G));have AM:=gY.later xo;have L:=Q7 AM.rw.e a m;have IC:=AM;have Ls:=xo;clear K cC aX gY mg I U Px xo AM;go_wp2_with fail;go_region_held3 (λw'=>w'.cell? (aD q 1)=some (pV r)/\w'.cell? (aD w.heap.size 2)=some (iV a))
  (first|exact⟨Iw,C⟩|exact⟨TD,ak3⟩)
    ((go_at_call 27;refine L.mono ?_;rintro e R ⟨rfl,xS,aV⟩;have gW:=IC.doc (IC.rw.lA (λg h=> .inl h) xS aV (Lq a rs)) (aV.mono (λg h=> .inl h)) (λg h=> .inl h) (λg h=> .inl h) rfl rfl;have TD:=gW.c1;have xA:=(aV.block w.heap.size ju (λo=>tW (l _ (.inr (.inr (.inl o)))))).trans ((Ls.block w.heap.size ju).trans D);have ak3:=bH xA))
 have Q:(dJ w R q A p r s N):=⟨A,⟨_,_,_,_,_,_,c,_,_,_,_,_,_,_,_,gW,E.Tr (M:=N+2) (by omega) ((E.inv.lay a gW.pw.d.ok).more (by omega)) (aaA S a),l,by omega,by omega,by omega⟩,((((((aa.ah A Bb).trans (aa.ah (λ_=>False) sH) (λ_ h=>h.elim)).trans gQ (λg n=> .inl (l g (.inl n)))).trans (aa.ah (λ_=>False) Ls) (λ_ h=>h.elim))).trans aV (λg n=> .inl (l g (.inr (.inr (.inl n)))))),λ_ h=> .inl h⟩;clear L xS aV gW xA;go_wp2;go_ret;exact⟨rfl,Q⟩
theorem ID (h:W5 w q F P F2 X O p r s S S c v1 v2 v3 v4 ss ts rs us) (H:Lk S s N ss ts rs us) (i:∀g,(F g\/P g\/F2 g\/X g\/O g)->A g) (mc:∀g,A g->g<w.heap.size) (h1:ss.length<=N) (h2:ts.length<=N) (hc:c<=5000*N) (hN:N<=3999999990000) (v m n:Int) (C:Option Addr) (E D:Nat) (f:Option Addr) (b j:Nat) (x y z:Int) (l:List P3) (I:∀W,aa A w W->kS W f b l) (nr:24*b<=140737488355328):
  Calls prog 12 #[pV q, .agg (iO 14 v m n C E D f b j x y z)] w λe w'=>e= .returned (.bool true)/\dJ w w' q A p r s N:=by
 have fo:=aI w (.cells (iO 14 v m n C E D f b j x y z) 41);have kT:(w.alloc (.cells (iO 14 v m n C E D f b j x y z) 41)).heap[w.heap.size]? =some (.cells (iO 14 v m n C E D f b j x y z) 41 (0,0)):=heap_alloc_new _ _;have h0:=h.later fo;have tW:¬A w.heap.size:=λk=>by have:=mc _ k;omega
 have AL:=λg a=>iP (mc g a) fo.size;obtain⟨y0,y1,y2,y3,y4,y5,y6,y7,y8⟩:=iT kT;obtain⟨Y,c1,Uv,L,Yp,t,R,L9⟩:=rV h0.c0 h0.c1 h0 H kT I h0.under H.inv.p6;obtain⟨wl1,_⟩:=vD H.inv.l0 H.inv.lt hN;have Fr:S.life<(S.il s l).life:=by show S.life<wrap64 (S.life+1);omega
 have ef:=aw kT;have Bb:=fo;clear h fo kT H h0 I;go_in;go_wp2_with fail;generalize (w.alloc (.cells (iO 14 v m n C E D f b j x y z) 41))=u at*;have j7:=ai (bi u.heap.size u);have Ep:=(aa.ah A Bb).trans (aa.ah (λ_=>False) j7) (λ_ h=>h.elim);obtain⟨Z,Lj,sH,K⟩:=cM (MP f b j l u.drew nr (t _ Ep)) (Uv.later j7) j7 Ep;have hzd:u.drew.heap.size=u.heap.size:=rfl;clear j7 Ep;go_region_held3 (λw'=>w'.cell? (aD q 0)=some (pV p)/\w'.cell? (aD w.heap.size 5)=some (.slice f b j))
  (first|exact⟨Y,y5⟩|exact⟨Px,J⟩|exact⟨afJ,afK⟩)
  (first
   |(go_at_call 29;refine Z.mono ?_;rintro e V1 ⟨g,rfl,a,afL,aq⟩;have OX:=Lj.later aq;have Px:=OX.c0;have iQ:=(aq.block w.heap.size ef).trans ((sH.block w.heap.size ef).trans Yp);have J:=rU iQ;have G:¬F g:=λk=>by have:=R g (.inl k);omega)
   |(go_at_call 28;refine(B.Zl OX.pw.d (by omega) (some (aD g 0)) b b l afL (by omega) (λx e=>by cases e;exact G)).mono ?_;rintro e U ⟨rfl,cC,aX⟩;have gY:=OX.prog (OX.pw.lA (λg h=> .inl h) cC aX) (aX.mono (λg h=> .inl h)) (λg h=> .inl h) rfl rfl;have afJ:=gY.c0;have mg:=(aX.block w.heap.size (aw iQ) (λk=>tW (i _ (.inl k)))).trans iQ;have afK:=rU mg))
 have Iw:=gY.c1;have ju:=aw mg;have xo:=ai (bi U.heap.size U);have BS:=((K.trans (aa.ah (λ_=>False) aq) (λ_ h=>h.elim)).trans aX (λg a=> .inl (i g (.inl a)))).trans (aa.ah (λ_=>False) xo) (λ_ h=>h.elim);have AM:=gY.later xo;obtain⟨k2,IC,Ls,Q,o⟩:=ey (Ke AM.rw.e (by omega) f b j l (t _ BS) (by omega)) AM xo mg BS;clear Z OX aq afL cC aX gY iQ mg Y c1 Px afJ y5 J xo AM BS G;go_wp2_with fail;go_region_held3 (λw'=>w'.cell? (aD q 1)=some (pV r)/\w'.cell? (aD w.heap.size 5)=some (.slice f b j))
  (first|exact⟨Iw,afK⟩|exact⟨TD,T⟩)
    ((go_at_call 30;refine k2.mono ?_;rintro e V3 ⟨rfl,xS,aV⟩;have gW:=IC.doc (IC.rw.lA (λg h=>h) xS aV (L.sK (.inr Fr))) (aV.mono (λg h=> .inl h)) (λg h=>h) (λg h=> .inl h) rfl rfl;have TD:=gW.c1;have xA:=(aV.block w.heap.size ju (λk=>tW (i _ (.inr (.inr (.inl k)))))).trans ((Ls.block w.heap.size ju).trans Q);have T:=rU xA))
 have mE:=o.trans aV (λg a=> .inl (i g (.inr (.inr (.inl a)))));have zA:=o.size;have HF:(dJ w V3 q A p r s N):=⟨λg=>A g\/w.heap.size<=g,⟨_,_,_,_,_,_,c,_,_,_,_,_,_,_,_,gW,L.Tr (M:=N+2) (by omega) ((L.inv.il (by omega) l gW.pw.d.ok).more (by omega)) rfl,λg a=>(by
  rcases a with a|a|(a|a)|a|a
  .exact .inl (i g (.inl a))
  .exact .inl (i g (.inr (.inl a)))
  .exact .inl (i g (.inr (.inr (.inl a))))
  .exact .inr (by omega)
  .exact .inl (i g (.inr (.inr (.inr (.inl a)))))
  .exact .inl (i g (.inr (.inr (.inr (.inr a)))))),by omega,by omega,by omega⟩,mE,λ_ h=>h⟩
 clear k2 xS aV gW xA mE;go_wp2;go_ret;exact⟨rfl,HF⟩
theorem EL (h:W5 w q F P F2 X O p r s S S c v1 v2 v3 v4 ss ts rs us) (f:Lk S s N ss ts rs us) (b:∀g,(F g\/P g\/F2 g\/X g\/O g)->A g) (mc:∀g,A g->g<w.heap.size) (h1:ss.length<=N) (h2:ts.length<=N) (hc:c<=5000*N) (hN:N<=3999999990000) (l i j:Int) (m:Option Addr) (o n:Nat) (u:Option Addr) (C v:Nat) (x y z:Int):
  Calls prog 12 #[pV q, .agg (iO 1 l i j m o n u C v x y z)] w λe w'=>e= .returned (.bool true)/\dJ w w' q A p r s N:=by
 have fo:=aI w (.cells (iO 1 l i j m o n u C v x y z) 41);have kT:(w.alloc (.cells (iO 1 l i j m o n u C v x y z) 41)).heap[w.heap.size]? =some (.cells (iO 1 l i j m o n u C v x y z) 41 (0,0)):=heap_alloc_new _ _;have h0:=h.later fo;have tW:¬A w.heap.size:=λt=>by have:=mc _ t;omega
 have AL:=λg a=>iP (mc g a) fo.size;obtain⟨y0,y1,y2,y3,y4,y5,y6,y7,y8⟩:=iT kT;obtain⟨R,c1,Uv,HL,Yp,L9,l1,l2⟩:=rV h0.c0 h0.c1 h0 f kT f.inv.p6 (B.vV h0.pw.d) (nE h0.rw.e);obtain⟨wl1,wl2⟩:=vD f.inv.l0 f.inv.lt hN;have W:(bT S s x y z).2=S\/S.life<(bT S s x y z).2.life:=(Lh S s x y z).imp id (λh=>by rcases h with h|h <;> omega);have L:=(f.sK W);obtain⟨J,EG,Fi,ef,Bb⟩:=ey ((f.inv.aeW (by omega) x y z)) (K5 S s x y z) f.inv.pO (aw kT) fo;clear h fo kT f h0 W;go_in;go_wp2_with fail;refine bE l1 λw1 bN=>?_;have j9:=bN.symm;clear bN l1;subst j9;go_wp2_with fail;refine bE l2 λw1 bN=>?_;have j9:=bN.symm;clear bN l2;subst j9;go_wp2_with fail;generalize (w.alloc (.cells (iO 1 l i j m o n u C v x y z) 41))=I at*;have j7:=ai (bi I.heap.size I);have Uw:=Uv.later j7;have Y:=wl Uw.pw.d Fi x y z (by omega);have Lj:=Uw;have sH:=j7;have k:=(λ(V:World) (he:aB V F2 r s S)=>EA he Fi x y z (by omega));unfold sT at k;clear j7 Uw;generalize bT S s x y z=Fm at*;go_region_held3 (λw'=>w'.cell? (aD q 0)=some (pV p)/\w'.cell? (aD w.heap.size 6)=some (iV x)/\w'.cell? (aD w.heap.size 7)=some (iV y)/\w'.cell? (aD w.heap.size 8)=some (iV z))
  (first|exact⟨R,y6,y7,y8⟩|exact⟨Px,D,E,G⟩)
    ((go_at_call 17;refine Y.mono ?_;rintro e H ⟨rfl,cC,aX⟩;have gY:=Lj.prog (Lj.pw.lA (λg h=>h) cC aX) (aX.mono (λg h=> .inl h)) (λg h=>h) rfl rfl;have Px:=gY.c0;have mg:=(aX.block w.heap.size ef (λt=>tW (b _ (.inl t)))).trans ((sH.block w.heap.size ef).trans Yp);have D:=wG mg;have E:=ri mg;have G:=Dg mg))
 obtain⟨Iw,eV,K,gQ,ju,xo⟩:=kQ gY.c1 gY mg aX (aw mg) (ai (bi H.heap.size H));have AM:=gY.later xo;have Z:=k _ AM.rw.e;have IC:=AM;have Ls:=xo;clear Y cC aX gY mg R c1 Px xo AM;go_wp2_with fail;go_region_held3 (λw'=>w'.cell? (aD q 1)=some (pV r)/\w'.cell? (aD w.heap.size 6)=some (iV x)/\w'.cell? (aD w.heap.size 7)=some (iV y)/\w'.cell? (aD w.heap.size 8)=some (iV z))
  (first|exact⟨Iw,D,E,G⟩|exact⟨TD,ak4,ak5,ak6⟩)
    ((go_at_call 24;refine Z.mono ?_;rintro e Q ⟨rfl,xS,aV⟩;have gW:=IC.doc (IC.rw.lA (λg h=>h) xS aV L) (aV.mono (λg h=> .inl h)) (λg h=>h) (λg h=> .inl h) rfl rfl;have TD:=gW.c1;have xA:=(aV.block w.heap.size ju (λt=>tW (b _ (.inr (.inr (.inl t)))))).trans ((Ls.block w.heap.size ju).trans K);have ak4:=wG xA;have ak5:=ri xA;have ak6:=Dg xA))
 have wu:=HL.Tr (M:=N+2) (by omega) J EG;have aa1:=ai (bi Q.heap.size Q);have uz:=gW.later aa1;have z0:=Bb.size;have z2:=gQ.size;have zd:I.drew.heap.size=I.heap.size:=rfl;have zd2:H.drew.heap.size=H.heap.size:=rfl;have mE:=((((((aa.ah A Bb).trans (aa.ah (λ_=>False) sH) (λ_ h=>h.elim)).trans gQ (λg a=> .inl (b g (.inl a)))).trans (aa.ah (λ_=>False) Ls) (λ_ h=>h.elim))).trans aV (λg a=> .inl (b g (.inr (.inr (.inl a)))))).trans (aa.ah (λ_=>False) aa1) (λ_ h=>h.elim);have HF:(dJ w Q.drew q A p r s N):=⟨λg=>A g\/w.heap.size<=g,⟨_,_,_,_,_,_,c+2,_,_,_,_,_,_,_,_,uz,wu,λg a=>(by
  rcases a with (a|a)|a|(a|a)|a|a
  .exact .inl (b g (.inl a))
  .exact .inr (by omega)
  .exact .inl (b g (.inr (.inl a)))
  .exact .inl (b g (.inr (.inr (.inl a))))
  .exact .inr (by omega)
  .exact .inl (b g (.inr (.inr (.inr (.inl a)))))
  .exact .inl (b g (.inr (.inr (.inr (.inr a)))))),by omega,by omega,by omega⟩,mE,λ_ h=>h⟩
 obtain⟨l3,l4,T,U⟩:=cM (B.vV uz.pw.d) (nE uz.rw.e) gW.c0 gW.c1;clear Z xS aV gW uz aa1 xA wu mE;go_wp2_with fail;go_region_held3 (λw'=>w'.cell? (aD q 0)=some (pV p)/\w'.cell? (aD q 1)=some (pV r))
  (exact⟨T,U⟩)
  (first
   |(go_at_call 22;refine l3.mono ?_;rintro e w4 ⟨rfl,tD⟩;have Ex:=tD.symm;clear tD;subst Ex)
   |(go_at_call 23;refine l4.mono ?_;rintro e w5 ⟨rfl,I3⟩;have Ld:=I3.symm;clear I3;subst Ld))
 clear l3 l4 T U;go_wp2;go_ret;exact⟨by simp,HF⟩
end
end
section
section
variable {w w':World} {q:Nat} {F P F2 X O A:Nat->Prop} {p r s c N:Nat} {S:DS} {v1 v2 v3 v4:Value} {ss:List PI} {ts:List PT} {rs:List RI} {us:List RJ}
theorem OY (h:W5 w q F P F2 X O p r s S S c v1 v2 v3 v4 ss ts rs us) (E:Lk S s N ss ts rs us) (C:∀g,(F g\/P g\/F2 g\/X g\/O g)->A g) (mc:∀g,A g->g<w.heap.size) (u:ss.length<=N) (v:ts.length<=N) (D:c<=5000*N) (G:N<=3999999990000) (b j i n:Int) (l:Option Addr) (a o:Nat) (m:Option Addr) (f t:Nat) (x y z:Int) (AD:j<=9223372036854775807) (H:i<=9223372036854775807) (d:List Int) (wL:∀W,aa A w W->Src W l a d) (wX:Bytes d) (DM:a<=140737488355328) (J:List P3) (I:∀W,aa A w W->kS W m f J) (nr:24*f<=140737488355328):
  Calls prog 12 #[pV q, .agg (iO b j i n l a o m f t x y z)] w λe w'=>e= .returned (.bool true)/\dJ w w' q A p r s N:=by
 by_cases k:b<1\/15<b
 .exact Lp h E C u v D b j i n l a o m f t x y z k
 .have K:b=1\/b=2\/b=3\/b=4\/b=5\/b=6\/b=7\/b=8\/b=9\/b=10\/b=11\/b=12\/b=13\/b=14\/b=15:=by omega
  rcases K with rfl|rfl|rfl|rfl|rfl|rfl|rfl|rfl|rfl|rfl|rfl|rfl|rfl|rfl|rfl
  .exact EL h E C mc u v D G j i n l a o m f t x y z
  .exact Ln h E C mc u v D G j i n l a o m f t x y z
  .exact AK 3 h E C mc u v D G j i n l a o m f t x y z AD (by omega)
  .exact nP 4 h E C mc u v D G j i n l a o m f t x y z AD d wL wX DM (by omega)
  .exact nP 5 h E C mc u v D G j i n l a o m f t x y z AD d wL wX DM (by omega)
  .exact nP 6 h E C mc u v D G j i n l a o m f t x y z AD d wL wX DM (by omega)
  .exact nP 7 h E C mc u v D G j i n l a o m f t x y z AD d wL wX DM (by omega)
  .exact nP 8 h E C mc u v D G j i n l a o m f t x y z AD d wL wX DM (by omega)
  .exact nP 9 h E C mc u v D G j i n l a o m f t x y z AD d wL wX DM (by omega)
  .exact AK 10 h E C mc u v D G j i n l a o m f t x y z AD (by omega)
  .exact AK 11 h E C mc u v D G j i n l a o m f t x y z AD (by omega)
  .exact EK h E C mc u v D G j i n l a o m f t x y z AD d wL wX DM
  .exact Lr h E C mc u v D G j i n l a o m f t x y z H
  .exact ID h E C mc u v D G j i n l a o m f t x y z J I nr
  .exact Lo h E C mc u v D G j i n l a o m f t x y z
end
end
end Go.Proofs.YtenlkgicpllbhaaGreat
