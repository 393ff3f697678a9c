import Derived.Test.YtkiehemoiapkkaaGreatW01
import Derived.Test.YtkiehemoiapkkaaGreatW02
import Derived.Maps.OwnOps
import Derived.Deep.RegionHeld3
import Derived.Deep.AppendLies
section
namespace Go.Proofs.YtkiehemoiapkkaaGreat
open Go.RowKit Go.Maps
def dsec (im:List Int) (k:Nat):List Int:=(im.drop (k*512)).take 512
def DS.cand (S:DS) (k j:Nat):List Int:=if j=0 then dsec S.im k else (pendOf S.puts k).getD (j-1) []
theorem zeroRows (w:World):(zeroValue 70).run Tryz.prog w= .ok (.slice none 0 0) w:=by kernel_rfl
theorem keyOf_nat (k:Nat) (hk:k<2048):keyOf Tryz.prog 3 (.int .i64 (k:Int))=some (kk k):=
 keyOf_int_mk Tryz.underlying3 (WalkArith.wf_i64 (by omega))
theorem DiskRaw.look {w:World} {F:Nat→Prop} {p s:Nat} {S:DS} {gi ci m:Nat} {D:DataW Value} {gr cr:Nat→Nat} (h:DiskRaw w F p s S gi ci m D gr cr) {k:Nat} (hk:k<s):
  ∃a c,(Instr.lookup 126 (.map (some m)) (.int .i64 (k:Int)) false).run Tryz.prog w= .ok (.slice a (pendOf S.puts k).length c) w∧
     (pendOf S.puts k≠ []→a=some ⟨gr k,0,none⟩∧c=cr k)∧(pendOf S.puts k= []→a=none∧c=0):=by
 have hs:=h.ok.hi
 obtain⟨v,ps,hrun,hv⟩:=h.map.lookup keyInt Tryz.underlying126 (zeroRows w) (zd:= .held (.slice none 0 0)) (zp:= []) rfl (keyOf_nat k (by omega))
 by_cases hp:pendOf S.puts k= []
 ·rw [Maps.atKey_of_not_has (h.pend.nope k hp)] at hv
  obtain⟨⟨a,n,c⟩,rfl⟩:=Rs_inv v _ hv
  rw [Rs_mk] at hv
  simp [mkS] at hv
  obtain⟨⟨rfl,rfl,rfl⟩,_⟩:=hv
  exact⟨none,0,by rw [hp];exact hrun,fun h=>absurd hp h,fun _=>⟨rfl,rfl⟩⟩
 ·rw [h.pend.look k hp] at hv
  obtain⟨⟨a,n,c⟩,rfl⟩:=Rs_inv v _ hv
  rw [Rs_mk] at hv
  simp [mkS] at hv
  obtain⟨⟨rfl,rfl,rfl⟩,_⟩:=hv
  exact⟨_,_,hrun,fun _=>⟨rfl,rfl⟩,fun h=>absurd h hp⟩
theorem sec_src {w:World} {gi ci k s:Nat} {im:List Int} (h:RowAt w 5 gi ci (bs im)) (hl:im.length=s*512) (hk:k<s):Src w (some ⟨gi,k*512,none⟩) 512 (dsec im k):=by
 refine⟨by simp [dsec];omega,(fun h=>by cases h),fun x hx i hi=>?_⟩
 cases hx
 rw [addr_add]
 have:=h.byte (i:=k*512+i) (by omega)
 rw [addr_add,Nat.zero_add] at this
 rw [this]
 simp [dsec,List.getD,hi]
theorem pend_len {S:DS} {s k:Nat} (h:S.Ok s) {j:Nat} (hj:j<(pendOf S.puts k).length):((pendOf S.puts k)[j]).length=512:=by
 have hm:=List.getElem_mem hj
 unfold pendOf at hm
 obtain⟨q,hq,e⟩:=List.mem_map.1 hm
 have:=(h.puts q (List.mem_filter.1 hq).1).2
 unfold pendOf
 rw [←e]
 exact this
theorem cand_zero {w:World} {F:Nat→Prop} {p s:Nat} {S:DS} {gi ci m:Nat} {D:DataW Value} {gr cr:Nat→Nat} (h:DiskRaw w F p s S gi ci m D gr cr) (k:Nat) (hk:k<s):
  Calls Tryz.prog 133 #[.pointer (some ⟨p,0,none⟩), .int .i64 (k:Int), .int .i64 0] w fun e w'=>e= .returned (.slice (some ⟨gi,k*512,none⟩) 512 512)∧w'=w:=by
 have hl:=h.img.le
 have hd:=durable_low p gi (s*512) ci s k k w (cell_of_block h.blk (j:=0) rfl) rfl hk rfl h.ok.hi (by simp [bs,h.ok.len] at hl;omega)
 go_enter Tryz.func133,Tryz.ntmps133
 go_wp2_with (go_at_call 101;refine hd.mono ?_;rintro e w' ⟨rfl,rfl⟩)
 go_ret
 exact⟨rfl,rfl⟩
theorem cand_succ {w:World} {F:Nat→Prop} {p s:Nat} {S:DS} {gi ci m:Nat} {D:DataW Value} {gr cr:Nat→Nat} (h:DiskRaw w F p s S gi ci m D gr cr) (k:Nat) (hk:k<s) (i:Nat) (jj:Int) (hj:jj=(i:Int)+1) (hi:i<(pendOf S.puts k).length) (hbig:S.puts.length≤140737488355328):
  Calls Tryz.prog 133 #[.pointer (some ⟨p,0,none⟩), .int .i64 (k:Int), .int .i64 jj] w fun e w'=>∃g c,e= .returned (.slice (some ⟨g,0,none⟩) 512 c)∧F g∧g≠gi∧RowAt w 5 g c (bs (pendOf S.puts k)[i])∧w'=w:=by
 subst hj
 have c1:=cell_of_block h.blk (j:=1) rfl
 have hp:pendOf S.puts k≠ []:=by intro e;rw [e] at hi;simp at hi
 obtain⟨a,c,hrun,h1,_⟩:=h.look hk
 obtain⟨rfl,rfl⟩:=h1 hp
 obtain⟨_,xs,hrow,hrows⟩:=h.pend.row k hp
 obtain⟨g,cg,hx,hF,hne,hr⟩:=hrows.get i hi
 have cx:=hrow.cell hx
 have hn:(pendOf S.puts k).length≤S.puts.length:=by unfold pendOf;rw [List.length_map];exact List.length_filter_le _ _
 have e1:((i:Int)+1 == 0)=false:=by rw [Bool.eq_false_iff,ne_eq,beq_iff_eq];omega
 have hi':(i:Int)<((pendOf S.puts k).length:Int):=by omega
 go_enter Tryz.func133,Tryz.ntmps133
 go_wp2
 go_ret
 exact⟨g,cg,rfl,hF,hne,hr,rfl⟩
def DS.now (S:DS) (k:Nat):List Int:=S.cand k (pendOf S.puts k).length
theorem DS.cand_len {S:DS} {s k j:Nat} (h:S.Ok s) (hk:k<s) (hj:j≤(pendOf S.puts k).length):(S.cand k j).length=512:=by
 unfold DS.cand
 split
 ·simp [dsec];have:=h.len;omega
 ·have hj':j-1<(pendOf S.puts k).length:=by omega
  rw [List.getD,List.getElem?_eq_getElem hj',Option.getD_some]
  exact pend_len h hj'
theorem cand_any {w:World} {F:Nat→Prop} {p s:Nat} {S:DS} {gi ci m:Nat} {D:DataW Value} {gr cr:Nat→Nat} (h:DiskRaw w F p s S gi ci m D gr cr) (k:Nat) (hk:k<s) (j:Nat) (hj:j≤(pendOf S.puts k).length) (hbig:S.puts.length≤140737488355328):
  Calls Tryz.prog 133 #[.pointer (some ⟨p,0,none⟩), .int .i64 (k:Int), .int .i64 (j:Int)] w fun e w'=>∃g o c,e= .returned (.slice (some ⟨g,o,none⟩) 512 c)∧F g∧512≤c∧(g=gi→o=k*512∧S.cand k j=dsec S.im k)∧Src w (some ⟨g,o,none⟩) 512 (S.cand k j)∧w'=w:=by
 cases j with
 |zero=>exact(cand_zero h k hk).mono (by rintro e w' ⟨rfl,rfl⟩;exact⟨gi,k*512,512,rfl,h.fgi,Nat.le_refl _,fun _=>⟨rfl,rfl⟩,sec_src h.img h.ok.len hk,rfl⟩)
 |succ i=>
  refine(cand_succ h k hk i ((i+1:Nat):Int) (by omega) (by omega) hbig).mono ?_
  rintro e w' ⟨g,c,rfl,hF,hne,hr,rfl⟩
  have e1:S.cand k (i+1)=(pendOf S.puts k)[i]:=by simp [DS.cand,List.getD,List.getElem?_eq_getElem (show i<(pendOf S.puts k).length by omega)]
  have hl:=pend_len h.ok (k:=k) (j:=i) (by omega)
  have hle:=hr.le
  refine⟨g,0,c,rfl,hF,by simp [bs] at hle;omega,fun e=>absurd e hne,?_,rfl⟩
  rw [e1]
  have:=hr.src
  rw [hl] at this
  exact this
def DS.read (S:DS):DS:={S with reads:=wrap64 (S.reads+1)}
def DS.refuse (S:DS):DS:={S with refused:=wrap64 (S.refused+1)}
theorem DiskRaw.set {w:World} {F:Nat→Prop} {p s:Nat} {S:DS} {gi ci m:Nat} {D:DataW Value} {gr cr:Nat→Nat} (h:DiskRaw w F p s S gi ci m D gr cr) (i:Nat) (v:Value):
    (w.setCell ⟨p,i,none⟩ v).heap[p]? =some (.cells ((dkCells (.slice (some ⟨gi,0,none⟩) (s*512) ci) (.map (some m)) S.fuse S.life S.reads S.writes S.flushes S.refused).setIfInBounds i v) 128 (0,0))∧Keeps (fun k=>k=p) w (w.setCell ⟨p,i,none⟩ v):=
   ⟨heap_setCell_same _ _ _ _ _ _ h.blk,Keeps.setCell (F:=fun k=>k=p) w (p:=⟨p,i,none⟩) rfl v⟩
theorem DiskRaw.refused {w:World} {F:Nat→Prop} {p s:Nat} {S:DS} {gi ci m:Nat} {D:DataW Value} {gr cr:Nat→Nat} (h:DiskRaw w F p s S gi ci m D gr cr):
  DiskRaw (w.setCell ⟨p,7,none⟩ (.int .i64 (wrap64 (S.refused+1)))) F p s S.refuse gi ci m D gr cr:=
 h.turn (h.set 7 _).2 ((h.set 7 _).1.trans (by simp [dkCells,DS.refuse])) rfl rfl h.ok.fuse
theorem DiskRaw.reads {w:World} {F:Nat→Prop} {p s:Nat} {S:DS} {gi ci m:Nat} {D:DataW Value} {gr cr:Nat→Nat} (h:DiskRaw w F p s S gi ci m D gr cr):
  DiskRaw (w.setCell ⟨p,4,none⟩ (.int .i64 (wrap64 (S.reads+1)))) F p s S.read gi ci m D gr cr:=
 h.turn (h.set 4 _).2 ((h.set 4 _).1.trans (by simp [dkCells,DS.read])) rfl rfl h.ok.fuse
theorem read_dead {w:World} {F:Nat→Prop} {p s:Nat} {S:DS} (h:DiskAt w F p s S) (at_:Int) (hf:S.fuse=0):
  Calls Tryz.prog 102 #[.pointer (some ⟨p,0,none⟩), .int .i64 at_] w fun e w'=>e= .returned (.tuple #[.slice none 0 0, .int .i64 3])∧w'=w:=by
 have hb:=burnt_at h
 rw [hf] at hb
 go_enter Tryz.func102,Tryz.ntmps102
 go_wp2_with (go_at_call 44;refine hb.mono ?_;rintro e w' ⟨rfl,rfl⟩)
 go_ret2
 exact⟨rfl,rfl⟩
theorem read_range {w:World} {F:Nat→Prop} {p s:Nat} {S:DS} (h:DiskAt w F p s S) (at_:Int) (hf:S.fuse≠0) (ha:at_<0∨(s:Int)≤at_):
  Calls Tryz.prog 102 #[.pointer (some ⟨p,0,none⟩), .int .i64 at_] w fun e w'=>e= .returned (.tuple #[.slice none 0 0, .int .i64 11])∧DiskAt w' F p s S.refuse∧Keeps F w w':=by
 have hb:=burnt_at h
 rw [show (S.fuse == 0)=false by simp [hf]] at hb
 obtain⟨gi,ci,m,D,gr,cr,h⟩:=h
 have hs:=h.ok.hi
 have hh:=has_low p _ (s*512) ci at_ w (by omega) (cell_of_block h.blk (j:=0) rfl)
 rw [show s*512 / 512=s by omega,show (decide (0≤at_) && decide (at_<(s:Int)))=false by simp;omega] at hh
 have hr:=refuse_low p S.refused 11 w (cell_of_block h.blk (j:=7) rfl) (frozen_of_block h.blk 7)
 have hk:Keeps F w (w.setCell ⟨p,7,none⟩ (.int .i64 (wrap64 (S.refused+1)))):=Keeps.setCell w h.fp _
 go_enter Tryz.func102,Tryz.ntmps102
 go_wp2_with (first|(go_at_call 44;refine hb.mono ?_;rintro e w' ⟨rfl,hw⟩;subst hw)|(go_at_call 97;refine hh.mono ?_;rintro e w' ⟨rfl,hw⟩;subst hw)|(go_at_call 98;refine hr.mono ?_;rintro e w' ⟨rfl,rfl⟩))
 go_ret2
 exact⟨rfl,⟨gi,ci,m,D,gr,cr,h.refused⟩,hk⟩
set_option maxHeartbeats 1000000 in
theorem read_okm {w:World} {F:Nat→Prop} {p s:Nat} {S:DS} {m:Nat} (h:DiskM w F p s S m) (k:Nat) (hf:S.fuse≠0) (hk:k<s) (hbig:S.puts.length≤140737488355328):
  Calls Tryz.prog 102 #[.pointer (some ⟨p,0,none⟩), .int .i64 (k:Int)] w fun e w'=>∃g c,e= .returned (.tuple #[.slice (some ⟨g,0,none⟩) 512 c, .int .i64 0])∧w.heap.size≤g∧RowAt w' 5 g c (bs (S.now k))∧
   DiskM w' F p s S.read m∧Keeps F w w':=by
 have hb:=burnt_at h.at
 rw [show (S.fuse == 0)=false by simp [hf]] at hb
 obtain⟨gi,ci,D,gr,cr,h⟩:=h
 have hs:=h.ok.hi
 have hh:=has_low p _ (s*512) ci k w (by omega) (cell_of_block h.blk (j:=0) rfl)
 rw [show s*512 / 512=s by omega,show (decide (0≤(k:Int)) && decide ((k:Int)<(s:Int)))=true by simp;omega] at hh
 have c4:=cell_of_block h.blk (j:=4) rfl
 have f4:=frozen_of_block h.blk 4
 have hd:=h.reads
 have hkp:Keeps F w (w.setCell ⟨p,4,none⟩ (.int .i64 (wrap64 (S.reads+1)))):=Keeps.setCell w h.fp _
 have hsz:(w.setCell ⟨p,4,none⟩ (.int .i64 (wrap64 (S.reads+1)))).heap.size=w.heap.size:=by simp [World.setCell]
 have c1:=cell_of_block hd.blk (j:=1) rfl
 obtain⟨a,c,hrun,hne,hnil⟩:=hd.look hk
 have hcl:(S.read.cand k (pendOf S.puts k).length).length=512:=DS.cand_len hd.ok hk (Nat.le_refl _)
 go_enter Tryz.func102,Tryz.ntmps102
 go_wp2_with (first|(go_at_call 44;refine hb.mono ?_;rintro e w' ⟨rfl,hw⟩;subst hw)|(go_at_call 97;refine hh.mono ?_;rintro e w' ⟨rfl,hw⟩;subst hw))
 refine(cand_any hd k hk (pendOf S.puts k).length (Nat.le_refl _) hbig).mono ?_
 rintro e w1 ⟨g,o,cg,rfl,hF,hcg,_,hsrc,rfl⟩
 go_wp2_with fail
 refine(clone_low ⟨g,o,none⟩ 512 cg _ _ hcl (by omega) (fun i hi=>hsrc.2.2 _ rfl i hi)).mono ?_
 rintro e w2 ⟨g2,c2,rfl,hg2,hr2,hb2⟩
 have hdk:=DiskM.keep ⟨gi,ci,D,gr,cr,hd⟩ (Keeps.of_below (fun _=>False) hb2) (fun _ _ h=>h)
 rw [hsz] at hg2
 go_wp2
 go_ret2
 exact⟨g2,c2,rfl,hg2,hr2,hdk,(hkp.trans (Keeps.of_below (fun _=>False) hb2) (fun _ h=>h.elim))⟩
theorem read_ok {w:World} {F:Nat→Prop} {p s:Nat} {S:DS} (h:DiskAt w F p s S) (k:Nat) (hf:S.fuse≠0) (hk:k<s) (hbig:S.puts.length≤140737488355328):
  Calls Tryz.prog 102 #[.pointer (some ⟨p,0,none⟩), .int .i64 (k:Int)] w fun e w'=>∃g c,e= .returned (.tuple #[.slice (some ⟨g,0,none⟩) 512 c, .int .i64 0])∧w.heap.size≤g∧RowAt w' 5 g c (bs (S.now k))∧
   DiskAt w' F p s S.read∧Keeps F w w':=by
 obtain⟨m,h⟩:=h.m
 refine(read_okm h k hf hk hbig).mono ?_
 rintro e w' ⟨g,c,h1,h2,h3,h4,h5⟩
 exact⟨g,c,h1,h2,h3,h4.at,h5⟩
end Go.Proofs.YtkiehemoiapkkaaGreat
end
section
namespace Go.Proofs.YtkiehemoiapkkaaGreat
open Go.RowKit Go.Maps
def DS.spend (S:DS):DS:={S with fuse:=if 0<S.fuse then S.fuse-1 else S.fuse}
def DS.put (S:DS) (k:Nat) (l:List Int):DS:={S with puts:=S.puts ++ [(k,l)]}
theorem pendOf_snoc (puts:List (Nat×List Int)) (k:Nat) (l:List Int) (j:Nat):pendOf (puts ++ [(k,l)]) j=if j=k then pendOf puts k ++ [l] else pendOf puts j:=by
 unfold pendOf
 by_cases h:j=k
 ·subst h;simp
 ·have:(k == j)=false:=by simp;omega
  simp [h,List.filter_append,this]
theorem pendOf_len (puts:List (Nat×List Int)) (k:Nat):(pendOf puts k).length≤puts.length:=by unfold pendOf;rw [List.length_map];exact List.length_filter_le _ _
theorem DiskRaw.sector {w:World} {F:Nat→Prop} {p s:Nat} {S:DS} {gi ci m:Nat} {D:DataW Value} {gr cr:Nat→Nat} (h:DiskRaw w F p s S gi ci m D gr cr) {k:Nat} (hk:k<s):
  ∃a cc xs,(∀wx:World,wx.heap[m]? =w.heap[m]?→(Instr.lookup 126 (.map (some m)) (.int .i64 (k:Int)) false).run Tryz.prog wx= .ok (.slice a (pendOf S.puts k).length cc) wx)∧
     (∀wx:World,(pendOf S.puts k≠ []→wx.heap[gr k]? =w.heap[gr k]?)→wx.ownsRow 0 44 1 (.slice a (pendOf S.puts k).length cc) (pendOf S.puts k).length xs)∧
   Rows' w F gi xs (pendOf S.puts k)∧(pendOf S.puts k= []→a=none∧cc=0)∧(pendOf S.puts k≠ []→a=some ⟨gr k,0,none⟩∧cc=cr k):=by
 have hs:=h.ok.hi
 have key:=keyOf_nat k (by omega)
 by_cases hp:pendOf S.puts k= []
 ·refine⟨none,0, [],fun wx hx=>?_,fun wx _=>?_,?_,fun _=>⟨rfl,rfl⟩,fun h=>absurd hp h⟩
  ·obtain⟨v,ps,hrun,hv⟩:=(ownsMap_agree h.map hx).lookup keyInt Tryz.underlying126 (zeroRows wx) (zd:= .held (.slice none 0 0)) (zp:= []) rfl key
   rw [Maps.atKey_of_not_has (h.pend.nope k hp)] at hv
   obtain⟨⟨a,n,c⟩,rfl⟩:=Rs_inv v _ hv
   rw [Rs_mk] at hv
   simp [mkS] at hv
   obtain⟨⟨rfl,rfl,rfl⟩,_⟩:=hv
   rw [hp];exact hrun
  ·rw [hp];exact World.ownsRow_nil _ _ _ _
  ·rw [hp];trivial
 ·obtain⟨_,xs,hrow,hrows⟩:=h.pend.row k hp
  refine⟨some ⟨gr k,0,none⟩,cr k,xs,fun wx hx=>?_,fun wx hx=>?_,hrows,fun h=>absurd h hp,fun _=>⟨rfl,rfl⟩⟩
  ·obtain⟨v,ps,hrun,hv⟩:=(ownsMap_agree h.map hx).lookup keyInt Tryz.underlying126 (zeroRows wx) (zd:= .held (.slice none 0 0)) (zp:= []) rfl key
   rw [h.pend.look k hp] at hv
   obtain⟨⟨a,n,c⟩,rfl⟩:=Rs_inv v _ hv
   rw [Rs_mk] at hv
   simp [mkS] at hv
   obtain⟨⟨rfl,rfl,rfl⟩,_⟩:=hv
   exact hrun
  ·have:=(hrow.agree (hx hp)).owns
   rw [hrows.length] at this
   exact this
theorem DiskRaw.wrote {w w3:World} {F:Nat→Prop} {p s:Nat} {S:DS} {gi ci m:Nat} {D:DataW Value} {gr cr:Nat→Nat} (h:DiskRaw w F p s S gi ci m D gr cr) {k:Nat} (hk:k<s) {l:List Int} (hl:l.length=512) {xs:List Value}
    (hrows:Rows' w F gi xs (pendOf S.puts k)) {g cg g2 cap2:Nat} (hke:Keeps (fun b=>b=m∨(pendOf S.puts k≠ []∧b=gr k)) w w3) (hg:w.heap.size≤g) (hr:RowAt w3 5 g cg (bs l))
    (hown:w3.ownsRow 0 44 1 (.slice (some ⟨g2,0,none⟩) ((pendOf S.puts k).length+1) cap2) ((pendOf S.puts k).length+1) (xs ++ [.slice (some ⟨g,0,none⟩) 512 cg]))
    (hg2:(pendOf S.puts k≠ []∧g2=gr k)∨w.heap.size≤g2) (hmap:w3.ownsMap Tryz.prog 3 Rs m (S.puts.length+1) (D.put (kk k) (.held (.slice (some ⟨g2,0,none⟩) ((pendOf S.puts k).length+1) cap2)))):
  DiskRaw w3 (more F w w3) p s (S.put k l) gi ci m (D.put (kk k) (.held (.slice (some ⟨g2,0,none⟩) ((pendOf S.puts k).length+1) cap2))) (fun j=>if j=k then g2 else gr j) (fun j=>if j=k then cap2 else cr j):=by
 obtain⟨g2',c2',hv,_,hr2,hlen⟩:=RowAt.of_owns hown (by simp)
 cases hv
 have hkey:WideAt.IsKeyLit (kk k):=trivial
 have rowne:∀b,pendOf S.puts k≠ []→b=gr k→∃cur,w.heap[b]? =some (.cells cur 44 (0,0)):=fun b hp e=>by
  obtain⟨_,ys,⟨cur,hb,_⟩,_⟩:=h.pend.row k hp
  exact⟨cur,by rw [e];exact hb⟩
 have stay:∀(b:Nat) (cur:Array Value) (e:TypeId),w.heap[b]? =some (Obj.cells cur e (0,0))→e≠44→w3.heap[b]? =w.heap[b]? :=fun b cur e hb he=>by
  refine hke.block b ((Array.getElem?_eq_some_iff.1 hb).1) (fun hn=>?_)
  rcases hn with hn|⟨hp,hn⟩
  ·exact ownsMap_ne h.map (hn▸hb) rfl
  ·obtain⟨cur',hb'⟩:=rowne b hp hn
   rw [hb] at hb'
   simp at hb'
   exact he hb'.2
 have stay5:∀b c ys,RowAt w 5 b c ys→RowAt w3 5 b c ys:=fun b c ys hb=>by
  have hb':=hb
  obtain⟨cur,hb1,_⟩:=hb'
  exact hb.agree (stay b cur _ hb1 (by decide))
 have hFm:∀b,F b→more F w w3 b:=fun b hb=> .inl hb
 refine⟨.inl h.fp, .inl h.fgi, .inl h.fm,fun b hb=>?_,?_,stay5 _ _ _ h.img,by simpa [DS.put] using hmap,⟨?_,?_,?_,?_,?_⟩,⟨h.ok.len,h.ok.lo,h.ok.hi,fun q hq=>?_,h.ok.fuse⟩⟩
 ·rcases hb with hb|hb
  ·exact Nat.lt_of_lt_of_le (h.lt b hb) hke.size
  ·exact hb.2
 ·rw [stay p _ _ h.blk (by decide)];exact h.blk
 ·intro kl hkl
  by_cases he:kl=kk k
  ·exact⟨k,he,by rw [DS.put,pendOf_snoc,if_pos rfl];simp⟩
  ·rw [Maps.has_put_other he] at hkl
   obtain⟨j,rfl,hj⟩:=h.pend.keys kl hkl
   exact⟨j,rfl,by rw [DS.put,pendOf_snoc];split;simp;exact hj⟩
 ·intro j hj
  rw [DS.put,pendOf_snoc] at hj
  split at hj
  ·simp at hj
  ·rename_i hne
   rw [Maps.has_put_other (by simp [kk];omega)]
   exact h.pend.nope j hj
 ·intro j hj z
  rw [DS.put,pendOf_snoc] at hj⊢
  by_cases he:j=k
  ·subst he
   simp only [if_true]
   rw [Maps.atKey_put_same h.map.isMap hkey]
   simp
  ·simp only [he,if_false] at hj⊢
   rw [Maps.atKey_put_other (by simp [kk];omega)]
   exact h.pend.look j hj z
 ·intro j hj
  rw [DS.put,pendOf_snoc] at hj⊢
  by_cases he:j=k
  ·subst he
   simp only [if_true]
   refine⟨?_,_,hr2,?_⟩
   ·rcases hg2 with ⟨hp,e⟩|hg2
    ·rw [e];exact .inl (h.pend.row j hp).1
    ·exact .inr ⟨hg2,hr2.lt⟩
   ·refine Rows'.snoc ⟨g,cg,rfl, .inr ⟨hg,hr.lt⟩,?_,hr⟩ ((hrows.carry (fun b c ys _ _ hb=>stay5 b c ys hb)).mono hFm)
    intro e
    have:=h.lt gi h.fgi
    omega
  ·simp only [he,if_false] at hj⊢
   obtain⟨hF,ys,hry,hrs⟩:=h.pend.row j hj
   refine⟨.inl hF,ys,hry.agree (hke.block _ hry.lt (fun hn=>?_)),(hrs.carry (fun b c ys _ _ hb=>stay5 b c ys hb)).mono hFm⟩
   rcases hn with hn|⟨hp,hn⟩
   ·obtain⟨cur,hb,_⟩:=hry
    exact ownsMap_ne h.map (hn▸hb) rfl
   ·exact he (h.pend.inj j k hj hp hn)
 ·intro j j' hj hj' e
  rw [DS.put,pendOf_snoc] at hj hj'
  by_cases h1:j=k <;> by_cases h2:j'=k
  ·omega
  ·subst h1
   simp only [if_true,h2,if_false] at e hj'
   rcases hg2 with ⟨hp,e2⟩|hg2
   ·exact(h.pend.inj j j' hp hj' (by omega))
   ·have:=h.lt _ (h.pend.row j' hj').1
    omega
  ·subst h2
   simp only [if_true,h1,if_false] at e hj
   rcases hg2 with ⟨hp,e2⟩|hg2
   ·exact(h.pend.inj j j' hj hp (by omega))
   ·have:=h.lt _ (h.pend.row j hj).1
    omega
  ·simp only [h1,h2,if_false] at e hj hj'
   exact h.pend.inj j j' hj hj' e
 ·simp only [DS.put,List.mem_append,List.mem_singleton] at hq
  rcases hq with hq|rfl
  ·exact h.ok.puts q hq
  ·exact⟨hk,hl⟩
theorem write_end {w w1 w2:World} {F:Nat→Prop} {p s:Nat} {S:DS} {gi ci m:Nat} {D:DataW Value} {gr cr:Nat→Nat} (h:DiskRaw w F p s S gi ci m D gr cr) {k:Nat} (hk:k<s) {l:List Int} (hl:l.length=512) {xs:List Value}
  {a:Option Addr} {cc:Nat} (hrows:Rows' w F gi xs (pendOf S.puts k)) (hnil:pendOf S.puts k= []→a=none∧cc=0) (hsome:pendOf S.puts k≠ []→a=some ⟨gr k,0,none⟩∧cc=cr k) {g cg g2 cap2:Nat} {o:Obj}
    (hb1:Below w.heap.size w w1) (hg:w.heap.size≤g) (hr:RowAt w1 5 g cg (bs l))
    (hown:w2.ownsRow 0 44 1 (.slice (some ⟨g2,0,none⟩) ((pendOf S.puts k).length+1) cap2) ((pendOf S.puts k).length+1) (xs ++ [.slice (some ⟨g,0,none⟩) 512 cg]))
    (hgrow:(w1.alloc o).grownBy w2 (Value.slice a (pendOf S.puts k).length cc).ownBlock) (hat:(Value.slice a (pendOf S.puts k).length cc).ownBlock=some g2∨g2=w1.heap.size+1) (hbig:S.puts.length+1≤5000000000000):
  w2.heap[p]? =w.heap[p]?∧w2.heap[m]? =w.heap[m]?∧∃w3,(Instr.mapUpdate 126 (.map (some m)) (.int .i64 (k:Int)) (.slice (some ⟨g2,0,none⟩) ((pendOf S.puts k).length+1) cap2)).run Tryz.prog w2= .ok () w3∧
   DiskRaw w3 (more F w w3) p s (S.put k l) gi ci m (D.put (kk k) (.held (.slice (some ⟨g2,0,none⟩) ((pendOf S.puts k).length+1) cap2))) (fun j=>if j=k then g2 else gr j) (fun j=>if j=k then cap2 else cr j)∧Keeps F w w3∧w3.heap[p]? =w.heap[p]? :=by
 have hs:=h.ok.hi
 have hb2:=hb1.alloc hb1.size o
 have hown':∀b,some b=(Value.slice a (pendOf S.puts k).length cc).ownBlock→pendOf S.puts k≠ []∧b=gr k:=fun b e=>by
  by_cases hp:pendOf S.puts k= []
  ·rw [(hnil hp).1] at e;simp [Value.ownBlock] at e
  ·rw [(hsome hp).1] at e
   simp [Value.ownBlock] at e
   exact⟨hp,e⟩
 have stay:∀b,b<w.heap.size→¬(pendOf S.puts k≠ []∧b=gr k)→w2.heap[b]? =w.heap[b]? :=fun b hb hn=>
    (hgrow.block b (Nat.lt_of_lt_of_le hb hb2.size) (fun e=>hn (hown' b e))).trans (hb2.block b hb)
 have hrow:∀b,pendOf S.puts k≠ []∧b=gr k→∃cur,w.heap[b]? =some (.cells cur 44 (0,0)):=fun b hp=>by
  obtain⟨_,ys,⟨cur,hb,_⟩,_⟩:=h.pend.row k hp.1
  exact⟨cur,by rw [hp.2];exact hb⟩
 have hp2:=stay p (h.lt p h.fp) (fun hn=>by
  obtain⟨cur,hb⟩:=hrow p hn
  rw [h.blk] at hb
  simp at hb)
 have hm2:=stay m (h.lt m h.fm) (fun hn=>by
  obtain⟨cur,hb⟩:=hrow m hn
  exact ownsMap_ne h.map hb rfl)
 obtain⟨w3,hrun,hmap,hg3⟩:=(ownsMap_agree h.map hm2).update keyInt Tryz.underlying126 (by unfold maxLen;omega) (keyOf_nat k (by omega)) (show Rs (.slice (some ⟨g2,0,none⟩) ((pendOf S.puts k).length+1) cap2)=some (.held _, []) from rfl)
 have hml:=h.lt m h.fm
 have hgl:=hr.lt
 have hsz1:=hb1.size
 have hszs:(w1.alloc o).heap.size=w1.heap.size+1:=by simp
 have hsz2:=hgrow.size
 have hsz3:=hg3.size
 have hgm:g≠m:=by omega
 obtain⟨g2',c2',hv,_,hr2,_⟩:=RowAt.of_owns hown (by simp)
 cases hv
 have hg2m:g2≠m:=fun e=>by
  obtain⟨cur,hb,_⟩:=hr2
  rw [e] at hb
  exact ownsMap_ne (ownsMap_agree h.map hm2) hb rfl
 have hr3:RowAt w3 5 g cg (bs l):=by
  refine(hr.agree ?_)
  rw [hg3.block g (by omega) (by simpa using hgm),hgrow.block g (by omega) (fun e=>?_),Below.heap_alloc _ _ _ hgl]
  have:=hown' g e
  have:=h.lt _ (h.pend.row k this.1).1
  omega
 have hke:Keeps (fun b=>b=m∨(pendOf S.puts k≠ []∧b=gr k)) w w3:=
    ⟨hg3.os.trans (hgrow.os.trans hb2.os),hg3.tape.trans (hgrow.tape.trans hb2.tape),hg3.output.trans (hgrow.output.trans hb2.output),by omega,fun b hb hn=>
     (hg3.block b (by omega) (fun e=>hn (.inl (by simpa using e)))).trans (stay b hb (fun hx=>hn (.inr hx)))⟩
 refine⟨hp2,hm2,w3,hrun,h.wrote hk hl hrows hke hg hr3 (hown.kept hg3 (.inr (by simpa [Value.ownBlock] using hg2m))) ?_ hmap,hke.mono (fun b hb=>?_),(hg3.block p (by have:=h.lt p h.fp;omega) (fun e=>ownsMap_ne h.map h.blk (by simpa using e.symm))).trans hp2⟩
 ·rcases hat with e|e
  ·exact .inl (hown' g2 e.symm)
  ·exact .inr (by omega)
 ·rcases hb with rfl|⟨hp,rfl⟩
  ·exact h.fm
  ·exact(h.pend.row k hp).1
theorem DiskRaw.wrotes {w:World} {F:Nat→Prop} {p s:Nat} {S:DS} {gi ci m:Nat} {D:DataW Value} {gr cr:Nat→Nat} (h:DiskRaw w F p s S gi ci m D gr cr):
  DiskRaw (w.setCell ⟨p,5,none⟩ (.int .i64 (wrap64 (S.writes+1)))) F p s {S with writes:=wrap64 (S.writes+1)} gi ci m D gr cr:=
 h.turn (h.set 5 _).2 ((h.set 5 _).1.trans (by simp [dkCells])) rfl rfl h.ok.fuse
theorem DiskRaw.spends {w:World} {F:Nat→Prop} {p s:Nat} {S:DS} {gi ci m:Nat} {D:DataW Value} {gr cr:Nat→Nat} (h:DiskRaw w F p s S gi ci m D gr cr):
  DiskRaw (if 0<S.fuse then w.setCell ⟨p,2,none⟩ (.int .i64 (wrap64 (S.fuse-1))) else w) F p s S.spend gi ci m D gr cr∧Keeps F w (if 0<S.fuse then w.setCell ⟨p,2,none⟩ (.int .i64 (wrap64 (S.fuse-1))) else w):=by
 have hl:=h.ok.fuse
 by_cases hp:0<S.fuse
 ·rw [if_pos hp]
  have e:wrap64 (S.fuse-1)=S.fuse-1:=by unfold wrap64;omega
  refine⟨h.turn (h.set 2 _).2 ((h.set 2 _).1.trans ?_) rfl rfl ?_,Keeps.setCell w h.fp _⟩
  ·rw [e]
   simp [dkCells,DS.spend,hp]
  ·simp only [DS.spend,if_pos hp];omega
 ·rw [if_neg hp]
  have e:S.spend=S:=by simp [DS.spend,hp]
  rw [e]
  exact⟨h,Keeps.refl _ _⟩
end Go.Proofs.YtkiehemoiapkkaaGreat
end
section
namespace Go.Proofs.YtkiehemoiapkkaaGreat
open Go.RowKit Go.Maps
def DS.wrote (S:DS):DS:={S with writes:=wrap64 (S.writes+1)}
theorem more_mono {F:Nat→Prop} {w w' w'':World} (h:w'.heap.size≤w''.heap.size):∀k,more F w w' k→more F w w'' k:=fun k hk=>by
 rcases hk with hk|hk
 ·exact .inl hk
 ·exact .inr ⟨hk.1,by omega⟩
theorem spend_fin {w w4:World} {F:Nat→Prop} {p s:Nat} {S:DS} {gi ci m:Nat} {D:DataW Value} {gr cr:Nat→Nat} (hF:F p) (h:DiskRaw w4 (more F w w4) p s S gi ci m D gr cr) (hk:Keeps F w w4):
  DiskM (if 0<S.fuse then w4.setCell ⟨p,2,none⟩ (.int .i64 (wrap64 (S.fuse-1))) else w4) (more F w (if 0<S.fuse then w4.setCell ⟨p,2,none⟩ (.int .i64 (wrap64 (S.fuse-1))) else w4)) p s S.spend m∧
   Keeps F w (if 0<S.fuse then w4.setCell ⟨p,2,none⟩ (.int .i64 (wrap64 (S.fuse-1))) else w4):=by
 obtain⟨h1,_⟩:=h.spends
 have hsz:(if 0<S.fuse then w4.setCell ⟨p,2,none⟩ (.int .i64 (wrap64 (S.fuse-1))) else w4).heap.size=w4.heap.size:=by split <;> simp [World.setCell]
 have hk2:Keeps (fun k=>k=p) w4 (if 0<S.fuse then w4.setCell ⟨p,2,none⟩ (.int .i64 (wrap64 (S.fuse-1))) else w4):=by
  split
  ·exact Keeps.setCell (F:=fun k=>k=p) w4 (p:=⟨p,2,none⟩) rfl _
  ·exact Keeps.refl _ _
 refine⟨DiskM.mono ⟨gi,ci,D,gr,cr,h1⟩ (more_mono (Nat.le_of_eq hsz.symm)) (fun k hk'=>?_),hk.trans hk2 (fun j hj=> .inl (hj▸hF))⟩
 rw [hsz]
 rcases hk' with h'|h'
 ·exact h.lt k (.inl h')
 ·rw [hsz] at h';exact h'.2
set_option maxHeartbeats 4000000 in
set_option maxRecDepth 100000 in
theorem write_okm {w:World} {F:Nat→Prop} {p s:Nat} {S:DS} {m:Nat} (hd:DiskM w F p s S m) (k:Nat) (hk:k<s) (hf:S.fuse≠0) (hbig:S.puts.length+1≤5000000000000)
    (x:Addr) (c:Nat) (l:List Int) (hsrc:Src w (some x) 512 l):
  Calls Tryz.prog 49 #[.pointer (some ⟨p,0,none⟩), .int .i64 (k:Int), .slice (some x) 512 c] w fun e w'=>e= .returned (.int .i64 0)∧DiskM w' (more F w w') p s ((S.put k l).wrote.spend) m∧Keeps F w w':=by
 have hb:=burnt_at hd.at
 rw [show (S.fuse == 0)=false by simp [hf]] at hb
 obtain⟨gi,ci,D,gr,cr,h⟩:=hd
 have hs:=h.ok.hi
 have hh:=has_low p _ (s*512) ci k w (by omega) (cell_of_block h.blk (j:=0) rfl)
 rw [show s*512 / 512=s by omega,show (decide (0≤(k:Int)) && decide ((k:Int)<(s:Int)))=true by simp;omega] at hh
 obtain⟨a,cc,xs,hlook,howns,hrows,hnil,hsome⟩:=h.sector hk
 obtain⟨i0,hi0,hz0,hz1,hz2⟩:=info_parts infoRow
 have hpl:=h.lt p h.fp
 have hml:=h.lt m h.fm
 have hpn:=pendOf_len S.puts k
 have hcell:∀wx:World,wx.heap[p]? =w.heap[p]?→wx.cell? ⟨p,1,none⟩=some (.map (some m)):=fun wx e=>cell_of_block (e.trans h.blk) (j:=1) rfl
 have hll:=hsrc.1
 have hl0:=hlook w.drew rfl
 go_enter Tryz.func49,Tryz.ntmps49
 go_wp2_with (first|(go_at_call 44;refine hb.mono ?_;rintro e w' ⟨rfl,hw⟩;have hw':=hw.symm;subst hw')|(go_at_call 97;refine hh.mono ?_;rintro e w' ⟨rfl,hw⟩;have hw':=hw.symm;subst hw'))
 go_region_held3 (fun w'=>w'.cell? ⟨p,1,none⟩=some (.map (some m)))
    ((refine hcell _ ?_;first|rfl|assumption|(refine(Below.heap_alloc _ _ _ (Nat.lt_of_lt_of_le ?_ hb1.size)).trans ?_ <;> assumption)))
  (first
   |(go_at_call 99;refine(clone_low x 512 c l w.drew hll (by omega) (fun i hi=>hsrc.2.2 _ rfl i hi)).mono ?_;rintro e w1 ⟨g,cg,rfl,hg,hr,hb0⟩;have hb1:Below w.heap.size w w1:=⟨hb0.os,hb0.tape,hb0.output,hb0.size,hb0.block⟩;clear hb0;have hp1:w1.heap[p]? =w.heap[p]? :=hb1.block p hpl;have hm1:w1.heap[m]? =w.heap[m]? :=hb1.block m hml;have hl1:=hlook w1 hm1;have hl2:=fun o=>hlook (w1.alloc o) ((Below.heap_alloc w1 o m (Nat.lt_of_lt_of_le hml hb1.size)).trans hm1))
   |(refine step_append_lies _ (by rfl) _ _ _ (by rfl) 0 44 i0 _ 1 24 Tryz.underlying70 hi0 hz0 hz1 hz2 rfl (by omega) (.slice a (pendOf S.puts k).length cc) (pendOf S.puts k).length xs (by rfl) (howns _ (fun hp=>(Below.heap_alloc w1 _ _ (Nat.lt_of_lt_of_le (h.lt _ (h.pend.row k hp).1) hb1.size)).trans (hb1.block _ (h.lt _ (h.pend.row k hp).1))))
       ⟨w1.heap.size,0,none⟩ 1 1 [.slice (some ⟨g,0,none⟩) 512 cg] (by rfl) (by rfl) (World.news_of_block (cs:= #[.slice (some ⟨g,0,none⟩) 512 cg]) (t:=44) (fr:=(0,0)) (heap_alloc_new w1 _)) (by simp [Value.oneCell']) (by omega) (by unfold maxLen;omega) (by omega) (Nat.zero_le _) (w1.heap.size+1) (by simp) ?_;intro g2 cap2 w2 hown2 hgrow2 hat2 hlt2;obtain⟨hp2,hm2,w3,hrun3,hd3,hk3,hp3⟩:=write_end h hk hll hrows hnil hsome hb1 hg hr hown2 hgrow2 hat2 hbig))
 all_goals
  have HFp:=h.fp
  have c5:=cell_of_block hd3.blk (j:=5) rfl
  have f5:=frozen_of_block hd3.blk 5
  have hd4:=hd3.wrotes
  have hk4:Keeps F w (w3.setCell ⟨p,5,none⟩ (.int .i64 (wrap64 ((S.put k l).writes+1)))):=hk3.trans (Keeps.setCell (F:=fun k=>k=p) w3 (p:=⟨p,5,none⟩) rfl _) (fun j hj=> .inl (hj▸HFp))
  have hsp:=spend_low p (S.put k l).fuse _ (cell_of_block hd4.blk (j:=2) rfl) (frozen_of_block hd4.blk 2) hd4.ok.fuse.1
  have hsz:(w3.setCell ⟨p,5,none⟩ (.int .i64 (wrap64 ((S.put k l).writes+1)))).heap.size=w3.heap.size:=by simp [World.setCell]
  have he:more F w (w3.setCell ⟨p,5,none⟩ (.int .i64 (wrap64 ((S.put k l).writes+1))))=more F w w3:=by unfold more;rw [hsz]
  rw [←he] at hd4
  have hs2:Calls Tryz.prog 100 #[.pointer (some ⟨p,0,none⟩)] (w3.setCell ⟨p,5,none⟩ (.int .i64 (wrap64 ((S.put k l).writes+1)))) fun e w'=>e= .returned (.tuple #[])∧DiskM w' (more F w w') p s ((S.put k l).wrote.spend) m∧Keeps F w w':=
   hsp.mono (by rintro e w' ⟨rfl,rfl⟩;exact⟨rfl,spend_fin HFp hd4 hk4⟩)
  go_wp2_with (go_at_call 100;refine hs2.mono ?_;rintro e w5 ⟨rfl,hd5,hk5⟩)
  go_ret
  exact⟨rfl,hd5,hk5⟩
theorem write_ok {w:World} {F:Nat→Prop} {p s:Nat} {S:DS} (hd:DiskAt w F p s S) (k:Nat) (hk:k<s) (hf:S.fuse≠0) (hbig:S.puts.length+1≤5000000000000)
    (x:Addr) (c:Nat) (l:List Int) (hsrc:Src w (some x) 512 l):
  Calls Tryz.prog 49 #[.pointer (some ⟨p,0,none⟩), .int .i64 (k:Int), .slice (some x) 512 c] w fun e w'=>e= .returned (.int .i64 0)∧DiskAt w' (more F w w') p s ((S.put k l).wrote.spend)∧Keeps F w w':=by
 obtain⟨m,hd⟩:=hd.m
 refine(write_okm hd k hk hf hbig x c l hsrc).mono ?_
 rintro e w' ⟨h1,h2,h3⟩
 exact⟨h1,h2.at,h3⟩
end Go.Proofs.YtkiehemoiapkkaaGreat
end
section
namespace Go.Proofs.YtkiehemoiapkkaaGreat
open Go.RowKit Go.Maps
def imOf (s:Nat) (f:Nat→List Int):List Int:=(List.range s).flatMap f
theorem imOf_succ (s:Nat) (f:Nat→List Int):imOf (s+1) f=imOf s f ++ f s:=by simp [imOf,List.range_succ]
theorem imOf_len (s:Nat) (f:Nat→List Int) (h:∀k,k<s→(f k).length=512):(imOf s f).length=s*512:=by
 induction s with
 |zero=>simp [imOf]
 |succ s ih=>rw [imOf_succ,List.length_append,ih (fun k hk=>h k (by omega)),h s (by omega)];omega
theorem sec_app_left (a b:List Int) {s k:Nat} (ha:a.length=s*512) (hk:k<s):dsec (a ++ b) k=dsec a k:=by
 unfold dsec
 rw [List.drop_append_of_le_length (by omega),List.take_append_of_le_length (by simp;omega)]
theorem sec_app_right (a b:List Int) {s:Nat} (ha:a.length=s*512) (hb:b.length=512):dsec (a ++ b) s=b:=by
 unfold dsec
 rw [←ha,List.drop_left,List.take_of_length_le (by omega)]
theorem sec_imOf (s:Nat) (f:Nat→List Int) (h:∀k,k<s→(f k).length=512) (k:Nat) (hk:k<s):dsec (imOf s f) k=f k:=by
 induction s with
 |zero=>omega
 |succ s ih=>
  have hl:=imOf_len s f (fun k hk=>h k (by omega))
  rw [imOf_succ]
  by_cases e:k=s
  ·subst e
   exact sec_app_right _ _ hl (h k (by omega))
  ·rw [sec_app_left _ _ hl (by omega)]
   exact ih (fun k hk=>h k (by omega)) (by omega)
theorem im_ext:∀(s:Nat) {a b:List Int},a.length=s*512→b.length=s*512→(∀k,k<s→dsec a k=dsec b k)→a=b
 |0,a,b,ha,hb,_=>by
  rw [List.eq_nil_of_length_eq_zero (by omega:a.length=0),List.eq_nil_of_length_eq_zero (by omega:b.length=0)]
 |s+1,a,b,ha,hb,h=>by
  have h0:=h 0 (by omega)
  simp [dsec] at h0
  have ih:=im_ext s (a:=a.drop 512) (b:=b.drop 512) (by simp;omega) (by simp;omega) (fun k hk=>by
   have:=h (k+1) (by omega)
   simp only [dsec,List.drop_drop] at this⊢
   rw [show 512+k*512=(k+1)*512 by omega]
   exact this)
  rw [←List.take_append_drop 512 a,←List.take_append_drop 512 b,h0,ih]
theorem splice_len {α:Type} (L:List α) (o:Nat) (cs:List α) (h:o+cs.length≤L.length):(splice L o cs).length=L.length:=by simp [splice];omega
theorem bs_splice (im l:List Int) (o:Nat):splice (bs im) o (bs l)=bs (splice im o l):=by simp [splice,bs]
theorem getElem_splice (L:List Int) (o:Nat) (cs:List Int) (h:o+cs.length≤L.length) (i:Nat):(splice L o cs)[i]? =if o≤i∧i<o+cs.length then cs[i-o]? else L[i]? :=by
 unfold splice
 by_cases h1:i<o
 ·rw [List.getElem?_append_left (by simp;omega),List.getElem?_take,if_pos h1,if_neg (by omega)]
 ·rw [List.getElem?_append_right (by simp;omega)]
  have e:(L.take o).length=o:=by simp;omega
  rw [e]
  by_cases h2:i<o+cs.length
  ·rw [List.getElem?_append_left (by omega),if_pos ⟨by omega,h2⟩]
  ·rw [List.getElem?_append_right (by omega),List.getElem?_drop,if_neg (by omega)]
   congr 1
   omega
theorem getElem_sec (im:List Int) (k i:Nat):(dsec im k)[i]? =if i<512 then im[k*512+i]? else none:=by
 unfold dsec
 rw [List.getElem?_take]
 split
 ·rw [List.getElem?_drop]
 ·rfl
theorem sec_splice {im l:List Int} {s k j:Nat} (him:im.length=s*512) (hl:l.length=512) (hk:k<s):dsec (splice im (k*512) l) j=if j=k then l else dsec im j:=by
 apply List.ext_getElem?
 intro i
 rw [getElem_sec]
 by_cases hi:i<512
 ·rw [if_pos hi,getElem_splice _ _ _ (by omega)]
  by_cases e:j=k
  ·subst e
   rw [if_pos (by omega),if_pos rfl]
   congr 1
   omega
  ·rw [if_neg (by omega),if_neg e,getElem_sec,if_pos hi]
 ·rw [if_neg hi]
  split
  ·rw [List.getElem?_eq_none (by omega)]
  ·rw [getElem_sec,if_neg hi]
theorem take_splice {α:Type} (L:List α) (o n:Nat) (cs:List α) (h:o+cs.length≤n) (hn:n≤L.length):(splice L o cs).take n=splice (L.take n) o cs:=by
 have e1:(L.take o).length=o:=by rw [List.length_take];omega
 unfold splice
 rw [List.take_append,List.take_append,e1,List.take_of_length_le (l:=L.take o) (by omega),List.take_of_length_le (l:=cs) (by omega),List.drop_take,List.take_take,Nat.min_eq_left (by omega:o≤n),Nat.sub_sub]
theorem RowAt.copied {w:World} {g c:Nat} {im:List Int} (h:RowAt w 5 g c (bs im)) (ty:TypeId) (dp:Option Addr) (off dLen dCap:Nat) (a:Option Addr) (sLen sCap:Nat) (l:List Int) (hs:Src w a sLen l)
    (hd:0<dLen→dp=some ⟨g,off,none⟩) (hfit:off+dLen≤im.length):
  ∃w2,(Builtin.copy_ #[44,44] ty #[.slice dp dLen dCap, .slice a sLen sCap]).run Tryz.prog w= .ok (goInt (Nat.min sLen dLen)) w2∧
   RowAt w2 5 g c (bs (splice im off (l.take dLen)))∧Keeps (fun k=>k=g) w w2∧w2.heap.size=w.heap.size:=by
 have hle:=h.le
 obtain⟨cur,hb,hc,ht,hm⟩:=h
 have hlen:(bs im).length=im.length:=by simp [bs]
 rw [hlen] at hle ht
 obtain⟨w2,hrun,hh,hk,hsz⟩:=copy_run w ty dp g off dLen dCap a sLen sCap cur.toList l (by simpa using hb) hs hd (by simp;omega)
 have hl2:(bs (l.take dLen)).length≤dLen:=by simp [bs];omega
 have hlb:(bs (l.take dLen)).length=(l.take dLen).length:=by simp [bs]
 refine⟨w2,hrun,⟨_,hh,?_,?_,hm⟩,hk,hsz⟩
 ·rw [List.size_toArray,splice_len _ _ _ (by simp only [Array.length_toList];omega)]
  simpa using hc
 ·have e:(bs (splice im off (l.take dLen))).length=im.length:=by
   rw [←bs_splice,splice_len _ _ _ (by rw [hlen];omega),hlen]
  rw [e,List.toList_toArray,take_splice _ _ _ _ (by omega) (by simp;omega),ht,bs_splice]
end Go.Proofs.YtkiehemoiapkkaaGreat
end
section
namespace Go.Proofs.YtkiehemoiapkkaaGreat
open Go.RowKit Go.Maps
open Go.ChangeMaps (setBlock heap_setBlock_same heap_setBlock_other)
theorem clear_run {w:World} {m n:Nat} {D:DataW Value} (h:w.ownsMap Tryz.prog 3 Rs m n D):
  ∃w',(∀ty,(Builtin.clear_ #[126] ty #[.map (some m)]).run Tryz.prog w= .ok (.tuple #[]) w')∧w'.ownsMap Tryz.prog 3 Rs m 0 (.map [])∧Keeps (fun k=>k=m) w w'∧w'.heap.size=w.heap.size:=by
 obtain⟨es,clock,hb,F,_,_⟩:=h
 refine⟨setBlock w m (.map #[] clock),?_,⟨#[],clock,heap_setBlock_same hb _,⟨by simp,?_,by simp⟩,by simp,by simp⟩,⟨rfl,rfl,rfl,by simp [setBlock],fun k _ hk=>heap_setBlock_other hb _ hk⟩,by simp [setBlock]⟩
 ·intro ty
  simp [Builtin.clear_,go_sem,MapKept.run_getObj_map hb,MapKept.run_setObj_map _ hb,setBlock]
 ·exact MapKept.stamped_empty _
theorem DiskRaw.cleared {w w':World} {F:Nat→Prop} {p s:Nat} {S:DS} {gi ci m:Nat} {D:DataW Value} {gr cr:Nat→Nat} (h:DiskRaw w F p s S gi ci m D gr cr) (hm:w'.ownsMap Tryz.prog 3 Rs m 0 (.map [])) (hk:Keeps (fun k=>k=m) w w'):
  DiskRaw w' F p s {S with puts:= []} gi ci m (.map []) gr cr:=by
 have hne:∀(b:Nat) (cur:Array Value) (e:TypeId) (fz:Nat×Nat),w.heap[b]? =some (Obj.cells cur e fz)→w'.heap[b]? =w.heap[b]? :=fun b cur e fz hb=>
  hk.block b (Array.getElem?_eq_some_iff.1 hb).1 (fun e1=>ownsMap_ne h.map (e1▸hb) rfl)
 refine⟨h.fp,h.fgi,h.fm,fun k hf=>Nat.lt_of_lt_of_le (h.lt k hf) hk.size,(hne p _ _ _ h.blk).trans h.blk,?_,hm,PendAt.empty _ _ _ _ _,⟨h.ok.len,h.ok.lo,h.ok.hi,by simp,h.ok.fuse⟩⟩
 obtain⟨cur,hb,_⟩:=h.img
 exact h.img.agree (hne gi _ _ _ hb)
theorem DiskRaw.agree {w w':World} {F:Nat→Prop} {p s:Nat} {S:DS} {gi ci m:Nat} {D:DataW Value} {gr cr:Nat→Nat} (h:DiskRaw w F p s S gi ci m D gr cr) (hs:w.heap.size≤w'.heap.size) (hb:∀k,F k→w'.heap[k]? =w.heap[k]?):
  DiskRaw w' F p s S gi ci m D gr cr:=
   ⟨h.fp,h.fgi,h.fm,fun k hk=>Nat.lt_of_lt_of_le (h.lt k hk) hs,(hb p h.fp).trans h.blk,h.img.agree (hb gi h.fgi),ownsMap_agree h.map (hb m h.fm),h.pend.agree hb,h.ok⟩
theorem DiskRaw.flushed {w:World} {F:Nat→Prop} {p s:Nat} {S:DS} {gi ci m:Nat} {D:DataW Value} {gr cr:Nat→Nat} (h:DiskRaw w F p s S gi ci m D gr cr):
  DiskRaw (w.setCell ⟨p,6,none⟩ (.int .i64 (wrap64 (S.flushes+1)))) F p s {S with flushes:=wrap64 (S.flushes+1)} gi ci m D gr cr:=
 h.turn (h.set 6 _).2 ((h.set 6 _).1.trans (by simp [dkCells])) rfl rfl h.ok.fuse
theorem DiskRaw.imaged {w w':World} {F:Nat→Prop} {p s:Nat} {S:DS} {gi ci m:Nat} {D:DataW Value} {gr cr:Nat→Nat} (h:DiskRaw w F p s S gi ci m D gr cr) {im:List Int} (hr:RowAt w' 5 gi ci (bs im)) (hl:im.length=s*512) (hk:Keeps (fun k=>k=gi) w w'):
  DiskRaw w' F p s {S with im:=im} gi ci m D gr cr:=by
 obtain⟨cur,hb,_⟩:=h.img
 refine⟨h.fp,h.fgi,h.fm,fun k hf=>Nat.lt_of_lt_of_le (h.lt k hf) hk.size,(hk.block p (h.lt p h.fp) (fun e=>(h.img.ne h.blk (by decide)) e.symm)).trans h.blk,hr,ownsMap_agree h.map (hk.block m (h.lt m h.fm) (ownsMap_ne h.map hb)),
  h.pend.carry (fun g c xs _ hne hr=>hr.agree (hk.block g hr.lt hne)) (fun g c xs _ hr=>hr.other hk hb (by decide)),⟨hl,h.ok.lo,h.ok.hi,h.ok.puts,h.ok.fuse⟩⟩
end Go.Proofs.YtkiehemoiapkkaaGreat
end
section
namespace Go.Proofs.YtkiehemoiapkkaaGreat
open Go.RowKit Go.Maps
def DS.flush (S:DS) (s:Nat):DS:={S with im:=imOf s S.now,puts:= [],flushes:=wrap64 (S.flushes+1)}
theorem flush_dead {w:World} {F:Nat→Prop} {p s:Nat} {S:DS} (h:DiskAt w F p s S) (hf:S.fuse=0):
  Calls Tryz.prog 50 #[.pointer (some ⟨p,0,none⟩)] w fun e w'=>e= .returned (.int .i64 3)∧w'=w:=by
 have hb:=burnt_at h
 rw [hf] at hb
 go_enter Tryz.func50,Tryz.ntmps50
 go_wp2_with (go_at_call 44;refine hb.mono ?_;rintro e w' ⟨rfl,rfl⟩)
 go_ret
 exact⟨rfl,rfl⟩
theorem flush_step {w:World} {F:Nat→Prop} {p s:Nat} {S:DS} {gi ci m:Nat} {D:DataW Value} {gr cr:Nat→Nat} (h:DiskRaw w F p s S gi ci m D gr cr) {k:Nat} (hp:pendOf S.puts k≠ []):
  k<s∧∃g cg,w.cell? ⟨gr k,(pendOf S.puts k).length-1,none⟩=some (.slice (some ⟨g,0,none⟩) 512 cg)∧
   ∃w2,(Builtin.copy_ #[44,44] 3 #[.slice (some ⟨gi,k*512,none⟩) 512 512, .slice (some ⟨g,0,none⟩) 512 cg]).run Tryz.prog w= .ok (goInt 512) w2∧
    DiskRaw w2 F p s {S with im:=splice S.im (k*512) (S.now k)} gi ci m D gr cr∧Keeps (fun b=>b=gi) w w2∧w2.heap.size=w.heap.size:=by
 have hks:k<s:=by
  obtain⟨l,hl⟩:=List.exists_mem_of_ne_nil _ hp
  unfold pendOf at hl
  obtain⟨q,hq,_⟩:=List.mem_map.1 hl
  obtain⟨hq1,hq2⟩:=List.mem_filter.1 hq
  have:=(h.ok.puts q hq1).1
  simp at hq2
  omega
 have hn:=List.length_pos_iff.2 hp
 obtain⟨_,xs,hrow,hrows⟩:=h.pend.row k hp
 obtain⟨g,cg,hx,hF,hne,hr⟩:=hrows.get ((pendOf S.puts k).length-1) (by omega)
 have hl:=pend_len h.ok (k:=k) (j:=(pendOf S.puts k).length-1) (by omega)
 have hnow:S.now k=(pendOf S.puts k)[(pendOf S.puts k).length-1]:=by
  simp [DS.now,DS.cand,List.getD,show¬(pendOf S.puts k).length=0 by omega,List.getElem?_eq_getElem (show (pendOf S.puts k).length-1<(pendOf S.puts k).length by omega)]
 have hsrc:=hr.src
 rw [hl] at hsrc
 have hlen:=h.ok.len
 obtain⟨w2,hrun,hr2,hk2,hsz⟩:=h.img.copied 3 (some ⟨gi,k*512,none⟩) (k*512) 512 512 (some ⟨g,0,none⟩) 512 cg _ hsrc (fun _=>rfl) (by omega)
 rw [List.take_of_length_le (by omega),←hnow] at hr2
 exact⟨hks,g,cg,hrow.cell hx,w2,hrun,h.imaged hr2 (by rw [splice_len _ _ _ (by rw [hnow];omega)];exact hlen) hk2,hk2,hsz⟩
theorem now_im (S:DS) (im:List Int) (k:Nat) (hp:pendOf S.puts k≠ []):DS.now {S with im:=im} k=S.now k:=by
 have hn:=List.length_pos_iff.2 hp
 simp [DS.now,DS.cand,show¬(pendOf S.puts k).length=0 by omega]
theorem now_none (S:DS) (k:Nat) (hp:pendOf S.puts k= []):S.now k=dsec S.im k:=by simp [DS.now,DS.cand,hp]
theorem now_len {S:DS} {s:Nat} (h:S.Ok s):∀k,k<s→(S.now k).length=512:=fun _ hk=>DS.cand_len h hk (Nat.le_refl _)
theorem flush_end {w wr w3:World} {F:Nat→Prop} {p s:Nat} {S:DS} {gi ci m:Nat} {D:DataW Value} {gr cr:Nat→Nat} {im:List Int} (h:DiskRaw w F p s S gi ci m D gr cr) (hd:DiskRaw wr F p s {S with im:=im} gi ci m D gr cr)
    (hl:∀k,k<s→dsec im k=S.now k) (hk:Keeps F w wr) (hm3:w3.ownsMap Tryz.prog 3 Rs m 0 (.map [])) (hk3:Keeps (fun k=>k=m) wr w3):
  w3.cell? ⟨p,6,none⟩=some (.int .i64 S.flushes)∧w3.frozen? ⟨p,6,none⟩=false∧
  Calls Tryz.prog 100 #[.pointer (some ⟨p,0,none⟩)] (w3.setCell ⟨p,6,none⟩ (.int .i64 (wrap64 (S.flushes+1)))) fun e w'=>e= .returned (.tuple #[])∧DiskAt w' F p s ((S.flush s).spend)∧Keeps F w w':=by
 have e:im=imOf s S.now:=im_ext s hd.ok.len (imOf_len s _ (now_len h.ok)) (fun k hk=>by
  rw [hl k hk,sec_imOf s _ (now_len h.ok) k hk])
 subst e
 have hd3:=hd.cleared hm3 hk3
 have hd4:=hd3.flushed
 have hk4:Keeps F w (w3.setCell ⟨p,6,none⟩ (.int .i64 (wrap64 (S.flushes+1)))):=(hk.trans hk3 (fun j hj=> .inl (hj▸h.fm))).trans (Keeps.setCell (F:=fun k=>k=p) w3 (p:=⟨p,6,none⟩) rfl _) (fun j hj=> .inl (hj▸h.fp))
 refine⟨cell_of_block hd3.blk (j:=6) rfl,frozen_of_block hd3.blk 6,(spend_low p S.fuse _ (cell_of_block hd4.blk (j:=2) rfl) (frozen_of_block hd4.blk 2) hd4.ok.fuse.1).mono ?_⟩
 rintro e w' ⟨rfl,rfl⟩
 have h5:=hd4.spends
 exact⟨rfl,⟨gi,ci,m,_,gr,cr,h5.1⟩,hk4.trans h5.2 (fun j hj=> .inl hj)⟩
set_option maxHeartbeats 4000000 in
set_option maxRecDepth 100000 in
theorem flush_ok {w:World} {F:Nat→Prop} {p s:Nat} {S:DS} (hd:DiskAt w F p s S) (hf:S.fuse≠0) (hbig:S.puts.length+1≤5000000000000):
  Calls Tryz.prog 50 #[.pointer (some ⟨p,0,none⟩)] w fun e w'=>e= .returned (.int .i64 0)∧DiskAt w' F p s ((S.flush s).spend)∧Keeps F w w':=by
 have hb:=burnt_at hd
 rw [show (S.fuse == 0)=false by simp [hf]] at hb
 obtain⟨gi,ci,m,D,gr,cr,h⟩:=hd
 have c1:=cell_of_block h.blk (j:=1) rfl
 have H:=h
 go_enter Tryz.func50,Tryz.ntmps50
 go_wp2_with (first|(go_at_call 44;refine hb.mono ?_;rintro e w' ⟨rfl,hw⟩;have hw':=hw.symm;subst hw')|(at_range;refine wpList_range_own _ rfl _ 126 rfl 3 70 keyInt Tryz.underlying126 Rs m S.puts.length D rfl H.map ?_;intro w0 hrg0 hg0 hs0;go_frame))
 have hk0:Keeps F w w0:=⟨hg0.os,hg0.tape,hg0.output,hg0.size,fun k hk _=>hg0.block k hk (by simp)⟩
 have hd0:=H.agree hg0.size (fun k hk=>hg0.block k (H.lt k hk) (by simp))
 have hl0:∀k,k<s→dsec S.im k=if has D (kk k) then dsec S.im k else S.now k:=fun k _=>by
  by_cases hp:pendOf S.puts k= []
  ·rw [H.pend.nope k hp];simp [now_none S k hp]
  ·rw [H.pend.has hp];simp
 go_loopw [3,4] (fun _ _ wr=>∃(left:Lit→Bool) (cnt:Nat) (im:List Int),wr.ranges Tryz.prog 3 Rs m w.heap.size S.puts.length D left cnt∧DiskRaw wr F p s {S with im:=im} gi ci m D gr cr∧
     (∀k,k<s→dsec im k=if left (kk k) then dsec S.im k else S.now k)∧Keeps F w wr)
    (fun _ _ wr=>wr.rangeLeft m w.heap.size)
 case atStart=>exact⟨_,_,S.im,hrg0,hd0,hl0,hk0⟩
 case round=>
  obtain⟨left,cnt,im,hrg,hd,hl,hk⟩:=hrel
  have Hd:=hd
  have Hl:=hl
  go_wp2_with (at_next;refine wpList_next_ranges _ rfl _ rfl 3 keyInt Rs (Value.int .i64) mkS (fun key kl hkey=>by obtain⟨x,rfl,_⟩:=Maps.keyOf_int_inv Tryz.underlying3 hkey;exact⟨x,rfl⟩) Rs_inv m w.heap.size S.puts.length _ _ _ rfl hrg ?_ ?_)
  ·intro _ hl0
   obtain⟨w3,hrun3,hm3,hk3,_⟩:=clear_run Hd.map
   have c1:=cell_of_block Hd.blk (j:=1) rfl
   obtain⟨c6,f6,hs2⟩:=flush_end H Hd (fun k hk=>by rw [Hl k hk,hl0];simp) hk hm3 hk3
   go_wp2_with (go_at_call 100;refine hs2.mono ?_;rintro e w5 ⟨rfl,hd5,hk5⟩)
   go_ret
   exact⟨rfl,hd5,hk5⟩
  ·intro x ca cn cc kl yd yp w2 cnt2 hkey hlk hv hat hrg2 hlt hg2 hs2 hen
   obtain⟨k,rfl,rfl,hp0,hc⟩:=Hd.pend.met hkey hv hat
   have hp:pendOf S.puts k≠ []:=hp0
   obtain⟨n',hn'⟩:∃n',(pendOf S.puts k).length=n'+1:=⟨(pendOf S.puts k).length-1,by have:=List.length_pos_iff.2 hp;omega⟩
   have hnot:∀j,F j→j≠w.heap.size:=fun j hj e=>by have:=H.lt j hj;omega
   have hd2:DiskRaw w2.drew F p s {S with im:=im} gi ci m D gr cr:=Hd.agree hg2.size (fun j hj=>hg2.block j (Hd.lt j hj) (by simpa using hnot j hj))
   obtain⟨hks,g,cg,hcell,w3,hrun,hd3,hk3,hsz3⟩:=flush_step hd2 hp
   have hlim:=hd2.img.le
   have hdu:=durable_low p gi (s*512) ci s k k w2.drew (cell_of_block hd2.blk (j:=0) rfl) rfl hks rfl hd2.ok.hi (by simp [bs,hd2.ok.len] at hlim;omega)
   obtain⟨rfl,rfl,rfl⟩:ca=_∧cn=_∧cc=_:=by simpa using hc
   simp only [hn'] at hen hcell
   have hcell':w2.cell? ⟨gr k,n',none⟩=some (.slice (some ⟨g,0,none⟩) 512 cg):=by simpa using hcell
   have hn2:n'+1≤S.puts.length:=by rw [←hn'];exact pendOf_len S.puts k
   have hb3:w3.cell? ⟨gr k,n',none⟩=some (.slice (some ⟨g,0,none⟩) 512 cg):=by
    obtain⟨xs,hrow,_⟩:=(hd2.pend.row k hp).2
    obtain⟨cur,hbi,_⟩:=hd2.img
    exact(World.cell?_of_block (w:=w2.drew) (a:=⟨gr k,n',none⟩) (hk3.block (gr k) hrow.lt (hrow.ne hbi (by decide)))).trans hcell'
   rw [(now_im S im k hp)] at hd3
   have hl3:∀j,j<s→dsec (splice im (k*512) (S.now k)) j=if (left (kk j) && !(kk j).sameKey (kk k)) then dsec S.im j else S.now j:=fun j hj=>by
    rw [sec_splice Hd.ok.len (now_len H.ok k hks) hks,same_kk]
    by_cases e:j=k
    ·subst e;simp
    ·rw [if_neg e,Hl j hj];simp [e]
   have hgi:=H.lt gi H.fgi
   have hg3:w2.grownBy w3 (some gi):=⟨hk3.os,hk3.tape,hk3.output,hk3.size,fun j hj hne=>hk3.block j hj (fun e=>hne (by rw [e]))⟩
   have hmi:m≠gi:=by
    obtain⟨cur,hbi,_⟩:=H.img
    exact ownsMap_ne H.map hbi
   have hrg3:=hrg2.kept hg3 (by simpa using hmi) (by simp;omega)
   have Hrg3:=hrg3
   have hcd:w2.drew.cell? ⟨gr k,n',none⟩=some (.slice (some ⟨g,0,none⟩) 512 cg):=hcell'
   dsimp only [mkS] at hen⊢
   have hi0:(0:Int)≤(n':Int):=by omega
   have hi1:(n':Int)<(n':Int)+1:=by omega
   have hi2:IntKind.i64.wrap (n':Int)=(n':Int):=by rw [IntKind.wrap_i64];omega
   go_wp2_with fail
   go_region_held3 (fun w'=>w'.cell? ⟨gr k,n',none⟩=some (.slice (some ⟨g,0,none⟩) 512 cg)) (assumption) (first|(go_at_call 101;refine hdu.mono ?_;rintro e w' ⟨rfl,rfl⟩))
   all_goals
    go_wp2
    go_roundw
    case rel=>exact⟨_,cnt2,_,Hrg3,hd3,hl3,((hk.trans (G:=fun j=>j=w.heap.size) ⟨hg2.os,hg2.tape,hg2.output,hg2.size,fun j hj hne=>hg2.block j hj (by simpa using hne)⟩ (fun j hj=> .inr (by omega))).trans (b:=w2) (G:=fun j=>j=gi) ⟨hk3.os,hk3.tape,hk3.output,hk3.size,hk3.block⟩ (fun j hj=> .inl (hj▸H.fgi)))⟩
    case measure=>rw [Hrg3.left_eq,hrg.left_eq];exact hlt
end Go.Proofs.YtkiehemoiapkkaaGreat
end
section
namespace Go.Proofs.YtkiehemoiapkkaaGreat
open Go.RowKit Go.Maps
theorem write_dead {w:World} {F:Nat→Prop} {p s:Nat} {S:DS} (h:DiskAt w F p s S) (at_:Int) (a:Option Addr) (n c:Nat) (hf:S.fuse=0):
  Calls Tryz.prog 49 #[.pointer (some ⟨p,0,none⟩), .int .i64 at_, .slice a n c] w fun e w'=>e= .returned (.int .i64 3)∧w'=w:=by
 have hb:=burnt_at h
 rw [hf] at hb
 go_enter Tryz.func49,Tryz.ntmps49
 go_wp2_with (go_at_call 44;refine hb.mono ?_;rintro e w' ⟨rfl,rfl⟩)
 go_ret
 exact⟨rfl,rfl⟩
theorem write_range {w:World} {F:Nat→Prop} {p s:Nat} {S:DS} (h:DiskAt w F p s S) (at_:Int) (a0:Option Addr) (n c:Nat) (hf:S.fuse≠0) (ha:at_<0∨(s:Int)≤at_):
  Calls Tryz.prog 49 #[.pointer (some ⟨p,0,none⟩), .int .i64 at_, .slice a0 n c] w fun e w'=>e= .returned (.int .i64 11)∧DiskAt w' F p s S.refuse∧Keeps F w w':=by
 have hb:=burnt_at h
 rw [show (S.fuse == 0)=false by simp [hf]] at hb
 obtain⟨gi,ci,m,D,gr,cr,h⟩:=h
 have hs:=h.ok.hi
 have hh:=has_low p _ (s*512) ci at_ w (by omega) (cell_of_block h.blk (j:=0) rfl)
 rw [show s*512 / 512=s by omega,show (decide (0≤at_) && decide (at_<(s:Int)))=false by simp;omega] at hh
 have hr2:Calls Tryz.prog 98 #[.pointer (some ⟨p,0,none⟩), .int .i64 11] w fun e w'=>e= .returned (.int .i64 11)∧DiskAt w' F p s S.refuse∧Keeps F w w':=
    (refuse_low p S.refused 11 w (cell_of_block h.blk (j:=7) rfl) (frozen_of_block h.blk 7)).mono (by rintro e w' ⟨rfl,rfl⟩;exact⟨rfl,⟨gi,ci,m,D,gr,cr,h.refused⟩,Keeps.setCell w h.fp _⟩)
 go_enter Tryz.func49,Tryz.ntmps49
 go_wp2_with (first|(go_at_call 44;refine hb.mono ?_;rintro e w' ⟨rfl,hw⟩;have hw':=hw.symm;subst hw')|(go_at_call 97;refine hh.mono ?_;rintro e w' ⟨rfl,hw⟩;have hw':=hw.symm;subst hw')|(go_at_call 98;refine hr2.mono ?_;rintro e w' ⟨rfl,hd,hk⟩))
 go_ret
 exact⟨rfl,hd,hk⟩
theorem write_length {w:World} {F:Nat→Prop} {p s:Nat} {S:DS} (h:DiskAt w F p s S) (k:Nat) (a0:Option Addr) (n c:Nat) (hf:S.fuse≠0) (hk:k<s) (hn:n≠512):
  Calls Tryz.prog 49 #[.pointer (some ⟨p,0,none⟩), .int .i64 (k:Int), .slice a0 n c] w fun e w'=>e= .returned (.int .i64 2)∧DiskAt w' F p s S.refuse∧Keeps F w w':=by
 have hb:=burnt_at h
 rw [show (S.fuse == 0)=false by simp [hf]] at hb
 obtain⟨gi,ci,m,D,gr,cr,h⟩:=h
 have hs:=h.ok.hi
 have hh:=has_low p _ (s*512) ci k w (by omega) (cell_of_block h.blk (j:=0) rfl)
 rw [show s*512 / 512=s by omega,show (decide (0≤(k:Int)) && decide ((k:Int)<(s:Int)))=true by simp;omega] at hh
 have hr2:Calls Tryz.prog 98 #[.pointer (some ⟨p,0,none⟩), .int .i64 2] w fun e w'=>e= .returned (.int .i64 2)∧DiskAt w' F p s S.refuse∧Keeps F w w':=
    (refuse_low p S.refused 2 w (cell_of_block h.blk (j:=7) rfl) (frozen_of_block h.blk 7)).mono (by rintro e w' ⟨rfl,rfl⟩;exact⟨rfl,⟨gi,ci,m,D,gr,cr,h.refused⟩,Keeps.setCell w h.fp _⟩)
 have hne:((n:Int) != 512)=true:=by rw [bne_iff_ne];omega
 go_enter Tryz.func49,Tryz.ntmps49
 go_wp2_with (first|(go_at_call 44;refine hb.mono ?_;rintro e w' ⟨rfl,hw⟩;have hw':=hw.symm;subst hw')|(go_at_call 97;refine hh.mono ?_;rintro e w' ⟨rfl,hw⟩;have hw':=hw.symm;subst hw')|(go_at_call 98;refine hr2.mono ?_;rintro e w' ⟨rfl,hd,hk⟩))
 go_ret
 exact⟨rfl,hd,hk⟩
def DS.take (S:DS):DS:={S with life:=wrap64 (S.life+1)}
theorem take_at {w:World} {F:Nat→Prop} {p s:Nat} {S:DS} (h:DiskAt w F p s S):
  Calls Tryz.prog 42 #[.pointer (some ⟨p,0,none⟩)] w fun e w'=>e= .returned (.int .i64 (wrap64 (S.life+1)))∧DiskAt w' F p s S.take∧Keeps F w w':=by
 obtain⟨gi,ci,m,D,gr,cr,h⟩:=h
 refine(take_low p S.life w (cell_of_block h.blk (j:=3) rfl) (frozen_of_block h.blk 3)).mono ?_
 rintro e w' ⟨rfl,rfl⟩
 exact⟨rfl,⟨gi,ci,m,D,gr,cr,h.turn (h.set 3 _).2 ((h.set 3 _).1.trans (by simp [dkCells,DS.take])) rfl rfl h.ok.fuse⟩,Keeps.setCell w h.fp _⟩
end Go.Proofs.YtkiehemoiapkkaaGreat
end
section
namespace Go.Proofs.YtkiehemoiapkkaaGreat
open Go.RowKit Go.Maps
end Go.Proofs.YtkiehemoiapkkaaGreat
end
section
namespace Go.Proofs.YtkiehemoiapkkaaGreat
open Go.RowKit Go.Maps
abbrev is_ (l:List Nat):List Value:=l.map (fun k:Nat=>Value.int .i64 (k:Int))
theorem is_eq (l:List Nat):(l.map (fun k:Nat=>(k:Int))).map (Value.int .i64)=is_ l:=by rw [List.map_map];rfl
def SortSaid:Prop:=∀(g cap:Nat) (zs:List Int) (w:World),RowAt w 3 g cap (zs.map (Value.int .i64))→zs.length<4611686018427387904→
 Calls Tryz.prog 152 #[.slice (some ⟨g,0,none⟩) zs.length cap] w fun e w'=>e= .returned (.tuple #[])∧RowAt w' 3 g cap ((zs.mergeSort fun x y=>decide (x≤y)).map (Value.int .i64))∧Keeps (fun k=>k=g) w w'
def SortNil:Prop:=∀(w:World),Calls Tryz.prog 152 #[.slice none 0 0] w fun e w'=>e= .returned (.tuple #[])∧Below w.heap.size w w'
end Go.Proofs.YtkiehemoiapkkaaGreat
end
section
namespace Go.Proofs.YtkiehemoiapkkaaGreat
open Go.RowKit Go.Maps
abbrev P3:=Int×Int×Int
end Go.Proofs.YtkiehemoiapkkaaGreat
end
section
namespace Go.Proofs.YtkiehemoiapkkaaGreat
open Go.RowKit Go.Maps
def p3 (l:List P3):List Value:=l.flatMap (fun q=> [.int .i64 q.1, .int .i64 q.2.1, .int .i64 q.2.2])
end Go.Proofs.YtkiehemoiapkkaaGreat
end
