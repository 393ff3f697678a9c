import Derived.Test.YtmgknloijelbiaaGreatV04
import Derived.Test.YtmgknloijelbiaaGreatPZ0
namespace Go.Proofs.YtmgknloijelbiaaGreat
open Go.RowKit Go.Maps
structure OV (d0 d:List Int) (k:STK) (m:List Nat):Prop where
 b0:Bytes d0
 l0:d0.length=512
 b:Bytes d
 l:d.length=512
 nd:m.Nodup
 rg:∀x∈m,k.zero≤x∧x-k.zero<4096
 fr:∀x∈m,bitOf d0 (x-k.zero)=false
 bt:∀j,j<4096→bitOf d j=(bitOf d0 j || decide (j+k.zero∈m))
theorem mem_erase_nd {l:List Nat} {a x:Nat} (hn:l.Nodup) (hx:l[a]? =some x) (y:Nat):y∈l.eraseIdx a↔y∈l∧y≠x:=by
 obtain⟨ha,hxa⟩:=List.getElem?_eq_some_iff.1 hx
 rw [←hxa,List.mem_eraseIdx_iff_getElem]
 constructor
 ·rintro ⟨i,hi,hne,rfl⟩
  exact⟨List.getElem_mem _,fun e=>by
   rcases Nat.lt_trichotomy i a with h9|h9|h9
   ·exact List.pairwise_iff_getElem.1 hn i a hi ha h9 e
   ·exact hne h9
   ·exact List.pairwise_iff_getElem.1 hn a i ha hi h9 e.symm⟩
 ·rintro ⟨hm,hne⟩
  obtain⟨i,hi,rfl⟩:=List.mem_iff_getElem.1 hm
  exact⟨i,hi,fun e=>hne (by subst e;rfl),rfl⟩
section
variable {d0 d:List Int} {k:STK} {m:List Nat}
theorem OV.start (hb:Bytes d) (hl:d.length=512):OV d d k []:=⟨hb,hl,hb,hl,List.nodup_nil,(fun x hx=>by cases hx),(fun x hx=>by cases hx),fun j _=>by simp⟩
theorem OV.take (h:OV d0 d k m) {c:Nat} (hc:c<4096) (hbit:bitOf d c=false):OV d0 (turnBit d c) k (m ++ [c+k.zero]):=by
 have hh:=h.bt c hc
 rw [hbit] at hh
 have h1:bitOf d0 c=false:=by cases e:bitOf d0 c <;> rw [e] at hh <;> simp_all
 have h2:c+k.zero∉m:=fun hm=>by rw [h1,decide_eq_true hm] at hh;cases hh
 have tb:∀j,bitOf (turnBit d c) j=if j=c then !bitOf d c else bitOf d j:=fun j=>turnBit_bit h.b (by have:=h.l;omega)
 refine⟨h.b0,h.l0,turnBit_bytes h.b,turnBit_len.trans h.l,?_,fun x hx=>?_,fun x hx=>?_,fun j hj=>?_⟩
 ·rw [List.nodup_append]
  exact⟨h.nd,by simp,fun a ha b hb e=>by
   simp at hb
   subst hb
   subst e
   exact h2 ha⟩
 ·rw [List.mem_append] at hx
  rcases hx with hx|hx
  ·exact h.rg x hx
  ·simp at hx
   omega
 ·rw [List.mem_append] at hx
  rcases hx with hx|hx
  ·exact h.fr x hx
  ·simp at hx
   rw [hx,Nat.add_sub_cancel]
   exact h1
 ·rw [tb]
  by_cases e:j=c
  ·rw [if_pos e,hbit,e,decide_eq_true (List.mem_append_right _ (by simp))]
   simp
  ·rw [if_neg e,h.bt j hj]
   have:(j+k.zero∈m ++ [c+k.zero])↔j+k.zero∈m:=by
    rw [List.mem_append]
    simp
    omega
   simp only [this]
theorem OV.drop (h:OV d0 d k m) {a x:Nat} (hx:m[a]? =some x):OV d0 (turnBit d (x-k.zero)) k (m.eraseIdx a):=by
 have hm:x∈m:=List.mem_of_getElem? hx
 obtain⟨g1,g2⟩:=h.rg x hm
 have hme:=mem_erase_nd h.nd hx
 have tb:∀j,bitOf (turnBit d (x-k.zero)) j=if j=x-k.zero then !bitOf d (x-k.zero) else bitOf d j:=fun j=>turnBit_bit h.b (by have:=h.l;omega)
 refine⟨h.b0,h.l0,turnBit_bytes h.b,turnBit_len.trans h.l,h.nd.sublist (List.eraseIdx_sublist m a),fun y hy=>h.rg y ((hme y).1 hy).1,fun y hy=>h.fr y ((hme y).1 hy).1,fun j hj=>?_⟩
 rw [tb]
 by_cases e:j=x-k.zero
 ·have e2:j+k.zero=x:=by omega
  rw [if_pos e,h.bt _ g2,←e,e2,decide_eq_true hm,decide_eq_false (fun e3=>((hme x).1 e3).2 rfl)]
  have:=h.fr x hm
  rw [←e] at this
  rw [this]
  rfl
 ·rw [if_neg e,h.bt j hj]
  have:(j+k.zero∈m.eraseIdx a)↔j+k.zero∈m:=by
   rw [hme]
   exact⟨fun e3=>e3.1,fun e3=>⟨e3,by omega⟩⟩
  simp only [this]
theorem OV.back (h:OV d0 d k []):d=d0:=bits_same h.b h.b0 (h.l.trans h.l0.symm) (fun i hi=>by rw [h.bt i (by have:=h.l;omega)];simp)
theorem OV.ne (h:OV d0 d k m) (hm:m≠ []):d≠d0:=fun e=>by
 obtain⟨x,hx⟩:=List.exists_mem_of_ne_nil m hm
 obtain⟨g1,g2⟩:=h.rg x hx
 have h1:=h.bt _ g2
 rw [e,h.fr x hx,Nat.sub_add_cancel g1,decide_eq_true hx] at h1
 cases h1
end
section
variable {G:SG} {S:DS} {T T0:TG} {tb tn:List Nat}
theorem sees_put {bm:Nat} {d:List Int} (hok:CM.Ok T.puts) (i:Nat):({T with puts:=CM.put T.puts bm d}:TG).sees G S i=if i=bm then d else T.sees G S i:=by
 show (CM.get (CM.put T.puts bm d) i).getD _=_
 rw [CM.get_put _ _ _ _ hok]
 split <;> rfl
theorem QF.take2 (h:QF G S T tb tn) (hd:G.L.dead S=false) (h2:2≤G.y.blocks) (hok:CM.Ok T.puts) (hy:YOk G.y) (b:Bool) (hby:Bytes (T.sees G S (stB b G.y).bm)) (hl:(T.sees G S (stB b G.y).bm).length=512) (hfl:(if b then tn else tb).length<(stB b G.y).cnt):
  ∃c T',T.takes G S (stB b G.y)=(((c+(stB b G.y).zero:Nat):Int),0,T')∧c<4096∧bitOf (T.sees G S (stB b G.y).bm) c=false∧(∀i,T'.sees G S i=if i=(stB b G.y).bm then turnBit (T.sees G S (stB b G.y).bm) c else T.sees G S i)∧QF G S T' (if b then tb else tb ++ [c+(stB b G.y).zero]) (if b then tn ++ [c+(stB b G.y).zero] else tn):=by
 have hr:=h.refusal hd h2 b
 have hk:=stB_ok hy b
 have hkn:=h.of b
 cases hlow:lowBit (T.sees G S (stB b G.y).bm) ((stB b G.y).first-(stB b G.y).zero) (stB b G.y).cnt with
 |none=>
  have:=hkn.full hlow
  omega
 |some c=>
  obtain⟨r1,r2,r3,r4,r5,r6⟩:=hkn.take hk hby hl hlow
  have hp:=h.put hd h2 hok b (d:=turnBit (T.sees G S (stB b G.y).bm) c) (turnBit_len.trans hl) (turn_ne hby hl r5)
  have hq:=h.set hok b r6
  refine⟨c,{T with puts:=CM.put T.puts (stB b G.y).bm (turnBit (T.sees G S (stB b G.y).bm) c)},?_,r5,r4,fun i=>sees_put hok i,?_⟩
  ·have e:T.ptake G S (stB b G.y)=(some (c+(stB b G.y).zero),0,{T with puts:=CM.put T.puts (stB b G.y).bm (turnBit (T.sees G S (stB b G.y).bm) c)}):=by
    unfold TG.ptake
    rw [if_neg (fun h=>h hr),hlow]
    unfold TG.ptook
    dsimp only
    rw [hp]
    rfl
   unfold TG.takes
   rw [e]
  ·cases b
   ·exact hq
   ·exact hq
theorem QF.drop2 (h:QF G S T tb tn) (hd:G.L.dead S=false) (h2:2≤G.y.blocks) (hok:CM.Ok T.puts) (hy:YOk G.y) (b:Bool) (hby:Bytes (T.sees G S (stB b G.y).bm)) (hl:(T.sees G S (stB b G.y).bm).length=512) {a x:Nat} (hx:(if b then tn else tb)[a]? =some x):
  ∃T',T.pdrop G S (stB b G.y) x=(0,T')∧(∀i,T'.sees G S i=if i=(stB b G.y).bm then turnBit (T.sees G S (stB b G.y).bm) (x-(stB b G.y).zero) else T.sees G S i)∧QF G S T' (if b then tb else tb.eraseIdx a) (if b then tn.eraseIdx a else tn):=by
 have hk:=stB_ok hy b
 have hr:=h.refusal hd h2 b
 have hkn:=h.of b
 obtain⟨ha,_⟩:=List.getElem?_eq_some_iff.1 hx
 obtain⟨⟨r1,r2⟩,r3,r4,r5,r6⟩:=hkn.drop hk hby hl ha hx
 have hp:=h.put hd h2 hok b (d:=turnBit (T.sees G S (stB b G.y).bm) (x-(stB b G.y).zero)) (turnBit_len.trans hl) (turn_ne hby hl r5)
 have hq:=h.set hok b r6
 refine⟨{T with puts:=CM.put T.puts (stB b G.y).bm (turnBit (T.sees G S (stB b G.y).bm) (x-(stB b G.y).zero))},?_,fun i=>sees_put hok i,?_⟩
 ·unfold TG.pdrop
  rw [if_neg (fun e=>e (h.state hd)),if_neg (by omega),if_neg (fun e=>e hr),Int.toNat_natCast,if_neg (by rw [r3];decide),hp]
 ·cases b
  ·exact hq
  ·exact hq
structure BK (G:SG) (S:DS) (T0 T:TG) (b:Bool) (tb tn mine:List Nat):Prop where
 qf:QF G S T (if b then tb else tb ++ mine) (if b then tn ++ mine else tn)
 ov:OV (T0.sees G S (stB b G.y).bm) (T.sees G S (stB b G.y).bm) (stB b G.y) mine
 ot:∀i,i≠(stB b G.y).bm→T.sees G S i=T0.sees G S i
theorem BK.start (h:QF G S T tb tn) (b:Bool) (hby:Bytes (T.sees G S (stB b G.y).bm)) (hl:(T.sees G S (stB b G.y).bm).length=512):BK G S T T b tb tn []:=
   ⟨by rw [List.append_nil,List.append_nil];cases b <;> exact h,OV.start hby hl,fun _ _=>rfl⟩
theorem BK.take {b:Bool} {mine:List Nat} (h:BK G S T0 T b tb tn mine) (hd:G.L.dead S=false) (h2:2≤G.y.blocks) (hok:CM.Ok T.puts) (hy:YOk G.y) (hfl:(if b then tn else tb).length+mine.length<(stB b G.y).cnt):
  ∃(x:Nat) (T':TG),T.takes G S (stB b G.y)=((x:Int),0,T')∧BK G S T0 T' b tb tn (mine ++ [x]):=by
 obtain⟨c,T',e1,e2,e3,e4,e5⟩:=h.qf.take2 hd h2 hok hy b h.ov.b h.ov.l (by cases b <;> simp <;> simp at hfl <;> omega)
 refine⟨_,T',e1,?_,?_,fun i hi=>?_⟩
 ·cases b
  ·simpa [List.append_assoc] using e5
  ·simpa [List.append_assoc] using e5
 ·rw [e4,if_pos rfl]
  exact h.ov.take e2 e3
 ·rw [e4,if_neg hi]
  exact h.ot i hi
theorem BK.drop {b:Bool} {mine:List Nat} {a x:Nat} (h:BK G S T0 T b tb tn mine) (hd:G.L.dead S=false) (h2:2≤G.y.blocks) (hok:CM.Ok T.puts) (hy:YOk G.y) (hx:mine[a]? =some x):
  ∃T':TG,T.pdrop G S (stB b G.y) x=(0,T')∧T'.caught G S 0=T'∧BK G S T0 T' b tb tn (mine.eraseIdx a):=by
 have hap:∀l:List Nat,(l ++ mine)[l.length+a]? =some x∧(l ++ mine).eraseIdx (l.length+a)=l ++ mine.eraseIdx a:=fun l=>by
  refine⟨?_,?_⟩
  ·rw [List.getElem?_append_right (by omega),Nat.add_sub_cancel_left,hx]
  ·rw [List.eraseIdx_append_of_length_le (by omega),Nat.add_sub_cancel_left]
 obtain⟨T',e1,e2,e3⟩:=h.qf.drop2 hd h2 hok hy b h.ov.b h.ov.l (a:=(if b then tn else tb).length+a) (x:=x) (by cases b;exact(hap tb).1;exact(hap tn).1)
 have e4:QF G S T' (if b then tb else tb ++ mine.eraseIdx a) (if b then tn ++ mine.eraseIdx a else tn):=by
  cases b
  ·have e5:QF G S T' ((tb ++ mine).eraseIdx (tb.length+a)) tn:=e3
   rw [(hap tb).2] at e5
   exact e5
  ·have e5:QF G S T' tb ((tn ++ mine).eraseIdx (tn.length+a)):=e3
   rw [(hap tn).2] at e5
   exact e5
 refine⟨T',e1,(caught_ok hd e4).1,e4,?_,fun i hi=>?_⟩
 ·rw [e2,if_pos rfl]
  exact h.ov.drop hx
 ·rw [e2,if_neg hi]
  exact h.ot i hi
def TG.maps (T:TG) (G:SG) (S:DS):List Int:=T.sees G S 0 ++ T.sees G S 1
theorem BK.back {b:Bool} (h:BK G S T0 T b tb tn []):T.maps G S=T0.maps G S:=by
 have h1:=h.ov.back
 unfold TG.maps
 cases b
 ·have h2:T.sees G S 0=T0.sees G S 0:=h1
  rw [h2,h.ot 1 (by simp [stB,bSt])]
 ·have h2:T.sees G S 1=T0.sees G S 1:=h1
  rw [h2,h.ot 0 (by simp [stB,nSt])]
theorem BK.ne {b:Bool} {mine:List Nat} (h:BK G S T0 T b tb tn mine) (hm:mine≠ []):T.maps G S≠T0.maps G S:=fun e=>by
 have h1:=h.ov.ne hm
 have h2:=h.ov.l
 have h3:=h.ov.l0
 unfold TG.maps at e
 cases b
 ·have h4:T.sees G S 1=T0.sees G S 1:=h.ot 1 (by simp [stB,bSt])
  rw [h4] at e
  exact h1 (List.append_cancel_right e)
 ·have h4:T.sees G S 0=T0.sees G S 0:=h.ot 0 (by simp [stB,nSt])
  rw [h4] at e
  exact h1 (List.append_cancel_left e)
end
end Go.Proofs.YtmgknloijelbiaaGreat
