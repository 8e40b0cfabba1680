/- Part of the proof. -/
import Derived.Test.YtgifhgnccmnbiabGreatDoorG11
import Derived.Test.YtgifhgnccmnbiabGreatDoorG03
set_option linter.unusedVariables false
set_option linter.unusedSimpArgs false
set_option maxHeartbeats 4000000
set_option maxRecDepth 100000
namespace Go.Proofs.YtgifhgnccmnbiabGreatDoor
open Go.RowKit Go.IntWalk
structure gU (B b:Nat)(w w':World):Prop where
 os:w'.os=w.os
 tape:w'.tape=w.tape
 output:w'.output=w.output
 size:w.heap.size<=w'.heap.size
 block:∀k,k<B->k≠b->w'.heap[k]?=w.heap[k]?
theorem gU.refl(B b:Nat)(w:World):gU B b w w:=⟨rfl,rfl,rfl,Nat.le_refl _,fun _ _ _=>rfl⟩
theorem gU.trans{B b:Nat}{u v w:World}(h:gU B b u v)(k:gU B b v w):gU B b u w:=
 ⟨k.os.trans h.os,k.tape.trans h.tape,k.output.trans h.output,Nat.le_trans h.size k.size,fun i hi hb=>(k.block i hi hb).trans (h.block i hi hb)⟩
theorem gU.sY{B b:Nat}{w w':World}(k:Kept [] w w')(hB:B<=w.heap.size):gU B b w w':=⟨k.os,k.tape,k.output,k.size,fun i hi _=>k.block i (by omega) (by simp)⟩
theorem gU.drew{B b:Nat}{w w':World}(h:gU B b w w'):gU B b w w'.drew:=⟨h.os,h.tape,h.output,h.size,h.block⟩
theorem gU.set{B b:Nat}{w w':World}(h:gU B b w w'){p:Addr}(hp:p.block=b\/B<=p.block)(u:Value):gU B b w (w'.setCell p u):=
 ⟨h.os,h.tape,h.output,by simpa [World.setCell] using h.size,fun k hk hb=>by
  rw[Below.heap_setCell _ _ _ _ (by rintro rfl;omega)];exact h.block k hk hb⟩
theorem gU.aD{B b k:Nat}{w w':World}{cs:Array Value}{e:TypeId}(h:gU B b w w')(hk:ah w k cs e)(h1:k<B)(h2:k≠b):ah w' k cs e:=(h.block k h1 h2).trans hk
theorem gU.below{B b:Nat}{w w':World}(h:gU B b w w'){C:Nat}(hC:C<=B)(hb:C<=b):Below C w w':=⟨h.os,h.tape,h.output,h.size,fun k hk=>h.block k (by omega) (by omega)⟩
structure TT where
 kind:Int
 syms:Nat:=0
 rules:List RU:=[]
 start:List Nat:=[]
 whole:PT:={}
def RU.cells(x:RU):List Value:=[.int .i64 x.l,.int .i64 x.r,.int .i64 x.pt.len,.int .i64 x.pt.nl,.int .i64 x.pt.first,.int .i64 x.pt.last]
def im(l:List RU):List Value:=l.flatMap RU.cells
def aF(l:List Nat):List Value:=l.map (fun(s:Nat)=>Value.int .i64 (s:Int))
def TT.cells(t:TT)(rv sv:Value):Array Value:=#[.int .i64 t.kind,.int .i64 t.syms,rv,sv,.int .i64 t.whole.len,.int .i64 t.whole.nl,.int .i64 t.whole.first,.int .i64 t.whole.last]
theorem Fs(l:List RU)(x:RU):im (l++[x])=im l++x.cells:=by simp[im]
theorem fk(l:List Nat)(x:Nat):aF (l++[x])=aF l++[.int .i64 (x:Int)]:=by simp[aF]
theorem rX:∀(l:List RU) (i j:Nat) (x:RU),l[i]?=some x->j<6->(im l)[i*6+j]?=x.cells[j]?
 | [],i,j,x,h,_=>by simp at h
 | y :: l,0,j,x,h,hj=>by
   simp at h;subst h;rw[Nat.zero_mul,Nat.zero_add];show(y.cells++im l)[j]?=_;rw[List.getElem?_append_left (by simp[RU.cells];omega)]
 | y :: l,i+1,j,x,h,hj=>by
   simp at h;show(y.cells++im l)[(i+1)*6+j]?=_;rw[List.getElem?_append_right (by simp[RU.cells];omega)];have e:(i+1)*6+j-y.cells.length=i*6+j:=by simp[RU.cells];omega
   rw[e];exact rX l i j x h hj
structure TM (w:World)(b:Nat)(pre post:Array Value)(E B:Nat)(t:TT)(rv sv:Value):Prop where
 aD:ah w b (pre++t.cells rv sv++post) E
 lt:b<B
 up:B<=w.heap.size
 rules:w.ownsRow B 221 6 rv t.rules.length (im t.rules)
 start:w.ownsRow B 3 1 sv t.start.length (aF t.start)
 small:∀x,x∈t.rules->ez x.pt
 whole:ez t.whole
theorem aQ{w w2:World}{S:List Nat}{base e z n:Nat}{v:Value}{xs:List Value}(h:w.ownsRow base e z v n xs)(k:Kept S w w2)(hg:∀g,v.ownBlock=some g->¬g∈S):w2.ownsRow base e z v n xs:=by
 refine⟨h.1,?_⟩;rcases h.2 with h1|⟨g,cap,cur,h1,h2,h3,r⟩
 ·exact Or.inl h1
 ·exact Or.inr ⟨g,cap,cur,h1,h2,(k.block g (Array.getElem?_eq_some_iff.1 h3).1 (hg g (by rw[h1];rfl))).trans h3,r⟩
section
variable {w w':World}{b E B:Nat}{pre post:Array Value}{t:TT}{rv sv:Value}
theorem TM.cell(h:TM w b pre post E B t rv sv){o:Nat}(ho:o=pre.size)(j:Nat)(hj:j<8):w.cell? ⟨b,o+j,none⟩=(t.cells rv sv)[j]?:=by
 rw[h.aD.cell,ho,Array.append_assoc,Array.getElem?_append_right (by omega),Array.getElem?_append_left (by simp[TT.cells];omega),Nat.add_sub_cancel_left]
theorem TM.kept(h:TM w b pre post E B t rv sv)(k:Kept [] w w'):TM w' b pre post E B t rv sv:=
 ⟨h.aD.kept k (by simp),h.lt,Nat.le_trans h.up k.size,aQ (S:=[]) h.rules k (fun _ _=>by simp),aQ (S:=[]) h.start k (fun _ _=>by simp),h.small,h.whole⟩
theorem TM.other(h:TM w b pre post E B t rv sv){b':Nat}(k:Kept [b'] w w')(h1:b'<B)(h2:b'≠b):TM w' b pre post E B t rv sv:=
 ⟨h.aD.kept k (by simp;omega),h.lt,Nat.le_trans h.up k.size,aQ (S:=[b']) h.rules k (fun g hg hc=>by simp at hc;have:=(h.rules.lt g hg).1;omega),aQ (S:=[b']) h.start k (fun g hg hc=>by simp at hc;have:=(h.start.lt g hg).1;omega),h.small,h.whole⟩
end
def dT(rs:List RU)(s:Int):RU:=if 0<=s-256 then (rs[(s-256).toNat]?).getD ⟨0,0,{}⟩ else ⟨0,0,{}⟩
def RU.val(x:RU):Value:=.agg x.cells.toArray
theorem cK(g j:Nat):(⟨g,0,none⟩:Addr).add j=⟨g,j,none⟩:=by unfold Addr.add;split <;> simp_all
theorem Sn{w:World}{b E B:Nat}{pre post:Array Value}{t:TT}{rv sv:Value}(h:TM w b pre post E B t rv sv){o:Nat}(ho:o=pre.size)(s:Nat)(hs:s<=100000)(hl:t.rules.length<=100000):
 Calls Tryz.prog 144 #[.pointer (some ⟨b,o,none⟩),.int .i64 (s:Int)] w fun e w'=>e=.returned (dT t.rules s).val/\Kept [] w w':=by
 have hk:Hid (∀o1,Kept [] w (w.alloc o1)):=fun o1=>(Kept.refl [] w).alloc _;have c2:w.cell? ⟨b,o+2,none⟩=some rv:=h.cell ho 2 (by omega);have pU:b<w.heap.size:=h.aD.lt;by_cases h1:(s:Int)-256<0
 ·have e:dT t.rules s=⟨0,0,{}⟩:=by unfold dT;rw[if_neg (by omega)]
  rw[e];unfold RU.val RU.cells;clear h e c2;go_enter Tryz.func144,Tryz.ntmps144
  go_wp2
  refine bodyPost_ret (v:=.agg #[.int .i64 0,.int .i64 0,.int .i64 0,.int .i64 0,.int .i64 0,.int .i64 0]) (by simp[results,Tryz.results144,go_sem]) rfl ⟨rfl,hk.out _⟩
 ·obtain⟨k,rfl⟩:∃k:Nat,s=k+256:=⟨s-256,by omega⟩;have hn:Hid (∀x,t.rules[k]?=x->dT t.rules ((k+256:Nat):Int)=x.getD ⟨0,0,{}⟩):=fun x hx=>by
   unfold dT;rw[if_pos (by omega),show(((k+256:Nat):Int)-256).toNat=k by omega,hx]
  clear h1;by_cases h2:k<t.rules.length
  ·obtain⟨x,hx⟩:∃x,t.rules[k]?=some x:=⟨_,List.getElem?_eq_getElem h2⟩;rw[hn.out _ hx];obtain⟨g,cap,rfl⟩:=aO h.rules (by omega);have hgw:g<w.heap.size:=(h.rules.lt g rfl).2;have hc:∀j,j<6->w.cell? ⟨g,k*6+j,none⟩=x.cells[j]?:=fun j hj=>by
    obtain⟨u,hu⟩:∃u,x.cells[j]?=some u:=⟨_,List.getElem?_eq_getElem (by simp[RU.cells];omega)⟩;have:=h.rules.cells (g:=g) rfl (k*6+j) u (by rw[rX _ _ _ _ hx hj];exact hu);rw[cK]at this;rw[this,hu]
   obtain⟨l,r,⟨p1,p2,p3,p4⟩⟩:=x;have d0:w.cell? ⟨g,k*6,none⟩=some (.int .i64 l):=hc 0 (by omega);have d1:w.cell? ⟨g,k*6+1,none⟩=some (.int .i64 r):=hc 1 (by omega);have d2:w.cell? ⟨g,k*6+2,none⟩=some (.int .i64 p1):=hc 2 (by omega);have d3:w.cell? ⟨g,k*6+3,none⟩=some (.int .i64 p2):=hc 3 (by omega);have d4:w.cell? ⟨g,k*6+4,none⟩=some (.int .i64 p3):=hc 4 (by omega);have d5:w.cell? ⟨g,k*6+5,none⟩=some (.int .i64 p4):=hc 5 (by omega);show Calls _ _ _ _ (fun e w'=>e=.returned (.agg #[.int .i64 l,.int .i64 r,.int .i64 p1,.int .i64 p2,.int .i64 p3,.int .i64 p4])/\Kept [] w w');generalize t.rules.length=n at *;have lt:(k:Int)<(n:Int):=by omega
   clear h hc hx hn ho;go_enter Tryz.func144,Tryz.ntmps144
   go_wp2
   refine bodyPost_ret (v:=.agg #[.int .i64 l,.int .i64 r,.int .i64 p1,.int .i64 p2,.int .i64 p3,.int .i64 p4]) (by simp[results,Tryz.results144,go_sem]) rfl ⟨rfl,hk.out _⟩
  ·rw[hn.out none (List.getElem?_eq_none (by omega))];show Calls _ _ _ _ (fun e w'=>e=.returned (.agg #[.int .i64 0,.int .i64 0,.int .i64 0,.int .i64 0,.int .i64 0,.int .i64 0])/\Kept [] w w');have hv:∃a cap,rv=.slice a t.rules.length cap:=by
    rcases h.rules.2 with⟨h3,h4⟩|⟨g,cap,_,h3,_⟩
    ·exact⟨none,0,by rw[h3,h4]⟩
    ·exact⟨_,cap,h3⟩
   obtain⟨a,cap,rfl⟩:=hv;generalize t.rules.length=n at *;have lt:¬(k:Int)<(n:Int):=by omega
   clear h hn ho h2;go_enter Tryz.func144,Tryz.ntmps144
   go_wp2
   refine bodyPost_ret (v:=.agg #[.int .i64 0,.int .i64 0,.int .i64 0,.int .i64 0,.int .i64 0,.int .i64 0]) (by simp[results,Tryz.results144,go_sem]) rfl ⟨rfl,hk.out _⟩
theorem TM.ke{w:World}{b E B:Nat}{pre post:Array Value}{t:TT}{rv sv:Value}(h:TM w b pre post E B t rv sv)(s:Nat):ez (partAt t.rules s):=by
 unfold partAt;split
 ·exact Ic s
 ·cases hx:t.rules[s-256]? with
  | none=>exact⟨by simp,by simp⟩
  | some x=>exact h.small x (List.mem_of_getElem? hx)
theorem Xx{w w1:World}(k:Kept [] w w1){g:Nat}(hg:w.heap.size<=g)(u0 u1 u2 u3:Value):
 Kept [] w ((((w1.setCell ⟨g,0,none⟩ u0).setCell ⟨g,1,none⟩ u1).setCell ⟨g,2,none⟩ u2).setCell ⟨g,3,none⟩ u3):=
 (((k.setCell (Or.inr hg) _).setCell (Or.inr hg) _).setCell (Or.inr hg) _).setCell (Or.inr hg) _
def ph:Array Value:=#[.int .i64 0,.int .i64 0,.int .i64 0,.int .i64 0]
theorem So{w:World}{g:Nat}{E:TypeId}(h:ah w g ph E)(u0 u1 u2 u3:Value):
 ah ((((w.setCell ⟨g,0,none⟩ u0).setCell ⟨g,1,none⟩ u1).setCell ⟨g,2,none⟩ u2).setCell ⟨g,3,none⟩ u3) g #[u0,u1,u2,u3] E:=
 (((h.set 0 u0).set 1 u1).set 2 u2).set 3 u3
theorem KY:(Tryz.prog.info? 84).map (·.size)=some 4:=by kernel_rfl
theorem Bb(l r p1 p2 p3 p4:Value)(w:World):(Instr.field 221 (.agg #[l,r,p1,p2,p3,p4]) 2).run Tryz.prog w=.ok (.agg #[p1,p2,p3,p4]) w:=by kernel_rfl
theorem kK{fn:Func}{r:Tmp}(h:fn.results=#[.cell r 84])(tmps:Array Value)(w:World)(g:Nat)(p:PT)
 (hp:tmps.getD r undef=.pointer (some ⟨g,0,none⟩)) (hg:ah w g p.arr 84):(results fn tmps).run Tryz.prog w=.ok p.val w:=
 results_cell_row h tmps w g _ _ _ _ hp hg Tryz.underlying84 rfl KY
theorem wi{w:World}{b E B:Nat}{pre post:Array Value}{t:TT}{rv sv:Value}(h:TM w b pre post E B t rv sv){o:Nat}(ho:o=pre.size)(s:Nat)(hs:s<=100000)(hl:t.rules.length<=100000):
 Calls Tryz.prog 147 #[.pointer (some ⟨b,o,none⟩),.int .i64 (s:Int)] w fun e w'=>e=.returned (partAt t.rules s).val/\Kept [] w w':=by
 have hk:Kept [] w (w.alloc (.cells ph 84)):=(Kept.refl [] w).alloc _;have aA:Hid (∀w1,Kept [] (w.alloc (.cells ph 84)) w1->ah w1 w.heap.size ph 84/\(∀u0 u1 u2 u3,ah ((((w1.setCell ⟨w.heap.size,0,none⟩ u0).setCell ⟨w.heap.size,1,none⟩ u1).setCell ⟨w.heap.size,2,none⟩ u2).setCell ⟨w.heap.size,3,none⟩ u3) w.heap.size #[u0,u1,u2,u3] 84)/\∀u0 u1 u2 u3,Kept [] w ((((w1.setCell ⟨w.heap.size,0,none⟩ u0).setCell ⟨w.heap.size,1,none⟩ u1).setCell ⟨w.heap.size,2,none⟩ u2).setCell ⟨w.heap.size,3,none⟩ u3)):=fun w1 k1=>
  ⟨(ah.new w _ _).kept k1 (by simp),fun u0 u1 u2 u3=>So ((ah.new w _ _).kept k1 (by simp)) u0 u1 u2 u3,fun u0 u1 u2 u3=>Xx (hk.trans k1) (Nat.le_refl _) u0 u1 u2 u3⟩
 by_cases h1:(s:Int)<256
 ·have e:partAt t.rules s=tW s:=by unfold partAt;rw[if_pos (by omega)]
  rw[e];have hb:Hid (∀w,Calls _ _ _ w _):=fun w=>rW s w;clear e h ho hk;generalize tW s=p at *;obtain⟨p1,p2,p3,p4⟩:=p;unfold PT.val PT.arr at hb ⊢;unfold ph at aA;simp only[]at hb ⊢;go_enter Tryz.func147,Tryz.ntmps147
  go_wp2_with fail
  refine(hb.out _).mono ?_;rintro e w1 ⟨rfl,k1⟩;obtain⟨ck,hS,hK⟩:=aA.out _ k1;have hS:Hid (∀u0 u1 u2 u3,_):=hS;have hK:Hid (∀u0 u1 u2 u3,_):=hK;have c0:w1.cell? ⟨w.heap.size,0,none⟩=some (.int .i64 0):=ck.cell 0;have c1:w1.cell? ⟨w.heap.size,1,none⟩=some (.int .i64 0):=ck.cell 1;have c2:w1.cell? ⟨w.heap.size,2,none⟩=some (.int .i64 0):=ck.cell 2;have c3:w1.cell? ⟨w.heap.size,3,none⟩=some (.int .i64 0):=ck.cell 3;have f0:w1.frozen? ⟨w.heap.size,0,none⟩=false:=ck.frozen 0;have f1:w1.frozen? ⟨w.heap.size,1,none⟩=false:=ck.frozen 1;have f2:w1.frozen? ⟨w.heap.size,2,none⟩=false:=ck.frozen 2;have f3:w1.frozen? ⟨w.heap.size,3,none⟩=false:=ck.frozen 3;clear ck k1 hb aA;go_wp2
  exact bodyPost_ret (v:=.agg #[.int .i64 p1,.int .i64 p2,.int .i64 p3,.int .i64 p4]) (kK Tryz.results147 _ _ w.heap.size ⟨p1,p2,p3,p4⟩ rfl (hS.out _ _ _ _)) rfl ⟨rfl,hK.out _ _ _ _⟩
 ·have e:(dT t.rules s).pt=partAt t.rules s:=by
   unfold dT partAt;rw[if_pos (by omega),if_neg (by omega),show((s:Int)-256).toNat=s-256 by omega];cases t.rules[s-256]? <;> rfl
  have hr:Hid (Calls _ _ _ (w.alloc (.cells ph 84)) _):=Sn (h.kept hk) ho s hs hl;rw[<-e];clear e h hk ho;generalize dT t.rules (s:Int)=x at *;obtain⟨l,r,⟨p1,p2,p3,p4⟩⟩:=x;unfold RU.val RU.cells at hr;unfold PT.val PT.arr;unfold ph at aA hr;simp only[]at hr ⊢;have hfp:=Bb;go_enter Tryz.func147,Tryz.ntmps147
  go_wp2_with fail
  refine hr.out.mono ?_;rintro e w1 ⟨rfl,k1⟩;obtain⟨ck,hS,hK⟩:=aA.out _ k1;have hS:Hid (∀u0 u1 u2 u3,_):=hS;have hK:Hid (∀u0 u1 u2 u3,_):=hK;have c0:w1.cell? ⟨w.heap.size,0,none⟩=some (.int .i64 0):=ck.cell 0;have c1:w1.cell? ⟨w.heap.size,1,none⟩=some (.int .i64 0):=ck.cell 1;have c2:w1.cell? ⟨w.heap.size,2,none⟩=some (.int .i64 0):=ck.cell 2;have c3:w1.cell? ⟨w.heap.size,3,none⟩=some (.int .i64 0):=ck.cell 3;have f0:w1.frozen? ⟨w.heap.size,0,none⟩=false:=ck.frozen 0;have f1:w1.frozen? ⟨w.heap.size,1,none⟩=false:=ck.frozen 1;have f2:w1.frozen? ⟨w.heap.size,2,none⟩=false:=ck.frozen 2;have f3:w1.frozen? ⟨w.heap.size,3,none⟩=false:=ck.frozen 3;clear ck k1 hr aA;go_wp2
  exact bodyPost_ret (v:=.agg #[.int .i64 p1,.int .i64 p2,.int .i64 p3,.int .i64 p4]) (kK Tryz.results147 _ _ w.heap.size ⟨p1,p2,p3,p4⟩ rfl (hS.out _ _ _ _)) rfl ⟨rfl,hK.out _ _ _ _⟩
section
variable {w w0 w1:World}{b E B:Nat}{pre post:Array Value}{t:TT}{rv sv:Value}
theorem TM.KZ(h:TM w0 b pre post E B t rv sv)(g:w0.grownBy w1 rv.ownBlock):ah w1 b (pre++t.cells rv sv++post) E/\w1.ownsRow B 3 1 sv t.start.length (aF t.start)/\gU B b w0 w1:=by
 have nd:∀k,k<B->some k≠rv.ownBlock:=fun k hk hc=>by have:=(h.rules.lt k hc.symm).1;omega
 refine⟨(g.block b h.aD.lt (nd b h.lt)).trans h.aD,World.ownsRow.kept h.start g (pV h.start h.rules (by decide)),⟨g.os,g.tape,g.output,g.size,fun k hk _=>g.block k (Nat.lt_of_lt_of_le hk h.up) (nd k hk)⟩⟩
theorem TM.K'(h:TM w0 b pre post E B t rv sv)(g:w0.grownBy w1 sv.ownBlock):ah w1 b (pre++t.cells rv sv++post) E/\w1.ownsRow B 221 6 rv t.rules.length (im t.rules)/\gU B b w0 w1:=by
 have nd:∀k,k<B->some k≠sv.ownBlock:=fun k hk hc=>by have:=(h.start.lt k hc.symm).1;omega
 refine⟨(g.block b h.aD.lt (nd b h.lt)).trans h.aD,World.ownsRow.kept h.rules g (pV h.rules h.start (by decide)),⟨g.os,g.tape,g.output,g.size,fun k hk _=>g.block k (Nat.lt_of_lt_of_le hk h.up) (nd k hk)⟩⟩
theorem cB{e z n:Nat}{v:Value}{xs:List Value}(h:w.ownsRow B e z v n xs)(hb:b<B)(j:Nat)(u:Value):(w.setCell ⟨b,j,none⟩ u).ownsRow B e z v n xs:=
 aQ (S:=[b]) h ((Kept.refl [b] w).setCell (Or.inl (by simp)) u) (fun g hg hc=>by simp at hc;have:=(h.lt g hg).1;omega)
theorem nf{cs cs':Array Value}(hb:ah w b (pre++cs++post) E){o j:Nat}(ho:o=pre.size)(hj:j<cs.size)(u:Value)(e:cs.setIfInBounds j u=cs'):ah (w.setCell ⟨b,o+j,none⟩ u) b (pre++cs'++post) E:=by
 have h:=hb.set (o+j) u;rwa [show(pre++cs++post).setIfInBounds (o+j) u=pre++cs'++post by
  subst ho;rw[<-e];apply Array.ext';simp only[Array.toList_setIfInBounds,Array.toList_append,List.append_assoc];rw[List.set_append,if_neg (by simp),List.set_append,if_pos (by simp;omega)];simp]at h
end
theorem Sp:(Tryz.prog.info? 221).map (fun i=>(i.zero,i.size,i.bytes)) =
 some (some (.agg #[.int .i64 0,.int .i64 0,.int .i64 0,.int .i64 0,.int .i64 0,.int .i64 0]),6,48):=by kernel_rfl
theorem Ft:(Tryz.prog.info? 3).map (fun i=>(i.zero,i.size,i.bytes))=some (some (.int .i64 0),1,8):=by kernel_rfl
section
variable {w0 w1:World}{b E B:Nat}{pre post:Array Value}{t:TT}{rv sv:Value}
theorem Sq(h:TM w0 b pre post E B t rv sv)(g:w0.grownBy w1 rv.ownBlock){v':Value}{x:RU}(hx:ez x.pt)(aG:w1.ownsRow B 221 6 v' (t.rules.length+1) (im t.rules++x.cells)){o:Nat}(ho:o=pre.size):
 w1.cell? ⟨b,o+2,none⟩=some rv/\w1.frozen? ⟨b,o+2,none⟩=false/\b<w1.heap.size /\
 TM (w1.setCell ⟨b,o+2,none⟩ v') b pre post E B { t with rules:=t.rules++[x]} v' sv/\gU B b w0 (w1.setCell ⟨b,o+2,none⟩ v'):=by
 obtain⟨hb,hs,hf⟩:=h.KZ g;have hc:w1.cell? ⟨b,o+2,none⟩=some rv:=by
  rw[hb.cell,ho,Array.append_assoc,Array.getElem?_append_right (by omega),Array.getElem?_append_left (by simp[TT.cells]),Nat.add_sub_cancel_left];rfl
 refine⟨hc,hb.frozen _,hb.lt,⟨?_,h.lt,?_,?_,?_,?_,h.whole⟩,?_⟩
 ·exact nf (cs:=t.cells rv sv) (cs':=TT.cells { t with rules:=t.rules++[x]} v' sv) hb ho (by simp[TT.cells]) v' rfl
 ·have:=hf.size;have:=h.up;simp[World.setCell];omega
 ·rw[show({t with rules:=t.rules++[x]}:TT).rules=t.rules++[x] from rfl,Fs,List.length_append];exact cB aG h.lt _ _
 ·exact cB hs h.lt _ _
 ·intro y hy;rcases List.mem_append.1 hy with hy|hy
  ·exact h.small y hy
  ·simp at hy;subst hy;exact hx
 ·exact hf.set (Or.inl rfl) _
end
theorem rY{w:World}{b E B:Nat}{pre post:Array Value}{t:TT}{rv sv:Value}(h:TM w b pre post E B t rv sv){o:Nat}(ho:o=pre.size)(l r:Nat)(hl:l<=100000)(hr:r<=100000)(hlen:t.rules.length<=90000):
 Calls Tryz.prog 129 #[.pointer (some ⟨b,o,none⟩),.int .i64 (l:Int),.int .i64 (r:Int)] w fun e w'=>e=.returned (.tuple #[])/\gU B b w w'/\∃v',TM w' b pre post E B { t with rules:=t.rules++[yM t.rules l r]} v' sv:=by
 obtain⟨i0,kQ,jh,dP,dB⟩:=info_parts Sp;have h1:Hid (∀w',Kept [] w w'->Calls _ _ _ w' _):=fun w' k=>wi (h.kept k) ho l hl (by omega);have h2:Hid (∀w',Kept [] w w'->Calls _ _ _ w' _):=fun w' k=>wi (h.kept k) ho r hr (by omega);have hj:Hid (∀w,Calls _ _ _ w _):=fun w=>DZ (partAt t.rules l) (partAt t.rules r) (h.ke l) (h.ke r) w;have iZ:ez (yM t.rules l r).pt:=yN (h.ke l) (h.ke r);obtain⟨x,hx⟩:∃x,x=yM t.rules l r:=⟨_,rfl⟩;have hp:jy (partAt t.rules l) (partAt t.rules r)=x.pt:=by rw[hx];rfl
 have YZ:x.l=l:=by rw[hx];rfl
 have hxr:x.r=r:=by rw[hx];rfl
 rw[<-hx]at iZ ⊢;rw[hp]at hj;clear hp hx;obtain⟨l',r',⟨p1,p2,p3,p4⟩⟩:=x;simp only[]at YZ hxr;subst YZ hxr;generalize partAt t.rules l'=pa at *;generalize partAt t.rules r'=pb at *;obtain⟨a1,a2,a3,a4⟩:=pa;obtain⟨b1,b2,b3,b4⟩:=pb;unfold PT.val PT.arr at h1 h2 hj;simp only[]at h1 h2 hj;have k0:Hid (Kept [] w w):=Kept.refl _ _;have M0:Hid (o=pre.size):=ho;clear ho;go_enter Tryz.func129,Tryz.ntmps129
 go_wp2_with fail
 refine(h1.out _ k0.out).mono ?_;rintro e w1 ⟨rfl,k1⟩;have V8:Hid (∀o,Kept [] w (w1.alloc o)):=fun o=>(k0.out.trans k1).alloc o;clear k1;go_wp2_with fail
 refine(h2.out _ (V8.out _)).mono ?_;rintro e w2 ⟨rfl,k2⟩;have hA:ah w2 w1.heap.size #[.int .i64 a1,.int .i64 a2,.int .i64 a3,.int .i64 a4] 84:=(ah.new w1 _ _).kept k2 (by simp);have d0:w2.cell? ⟨w1.heap.size,0,none⟩=some (.int .i64 a1):=hA.cell 0;have d1:w2.cell? ⟨w1.heap.size,1,none⟩=some (.int .i64 a2):=hA.cell 1;have d2:w2.cell? ⟨w1.heap.size,2,none⟩=some (.int .i64 a3):=hA.cell 2;have d3:w2.cell? ⟨w1.heap.size,3,none⟩=some (.int .i64 a4):=hA.cell 3;have hA1:w1.heap.size<w2.heap.size:=hA.lt;have k2H:Hid (∀o,Kept [] w (w2.alloc o)):=fun o=>((V8.out _).trans k2).alloc o;clear k2 hA V8 h1 h2;go_wp2_with fail
 refine(hj.out _).mono ?_;rintro e w3 ⟨rfl,k3⟩;have k3':=(k2H.out _).trans k3;have hT:=h.kept k3';have c2:w3.cell? ⟨b,o+2,none⟩=some rv:=hT.cell M0.out 2 (by omega);have pU:b<w3.heap.size:=hT.aD.lt;have hbup:b+1<=w3.heap.size:=pU;have Y2:Hid (∀o1 o2,Kept [] w ((w3.alloc o1).alloc o2).drew):=fun o1 o2=>((k3'.alloc o1).alloc o2).drew;clear k3 k3' k2H hj d0 d1 d2 d3 hT;go_wp2_with fail
 have own:∀o1 o2,((w3.alloc o1).alloc o2).ownsRow B 221 6 rv t.rules.length (im t.rules):=fun o1 o2=>(h.kept (Y2.out o1 o2)).rules;have up:∀o1 o2,B<=((w3.alloc o1).alloc o2).heap.size:=fun o1 o2=>(h.kept (Y2.out o1 o2)).up;have mb:t.rules.length+1<=maxLen:=by unfold maxLen;omega
 go_region_law (refine cF rfl (.tmp 25) (.tmp 27) 82 rfl 221 i0 _ 6 48 Tryz.underlying82 kQ jh dP dB rfl (by decide) B rv t.rules.length (im t.rules) (by simp[Act.eval,Act.put]) (by exact own _ _) ⟨w3.heap.size+1,0,none⟩ 1 1 [.int .i64 l',.int .i64 r',.int .i64 p1,.int .i64 p2,.int .i64 p3,.int .i64 p4] (by simp[Act.eval,Act.put]) rfl (by exact bM _ _ _ _ (by simp)) (by simp[Value.oneCell']) mb (by omega) (by exact up _ _) ?_;intro v' w4 aG ay;obtain⟨g,cap,rfl⟩:=aO aG (by omega);obtain⟨e2,f2,b2,kf,Pb⟩:=Sq (x:=⟨l',r',⟨p1,p2,p3,p4⟩⟩) (h.kept (Y2.out _ _)) ay iZ aG M0.out)
 all_goals
  have Gw:Hid (TM _ _ _ _ _ _ _ _ _):=kf;have hF3:Hid (gU B b w _):=(gU.sY (Y2.out _ _) h.up).trans Pb;clear kf Pb aG ay own up;go_wp2
  go_end0;exact⟨rfl,hF3.out,_,Gw.out⟩
section
variable {w0 w1:World}{b E B:Nat}{pre post:Array Value}{t:TT}{rv sv:Value}
theorem Pc(h:TM w0 b pre post E B t rv sv)(g:w0.grownBy w1 sv.ownBlock){v':Value}{x:Nat}(aG:w1.ownsRow B 3 1 v' (t.start.length+1) (aF t.start++[.int .i64 (x:Int)])){o:Nat}(ho:o=pre.size):
 w1.cell? ⟨b,o+3,none⟩=some sv/\w1.frozen? ⟨b,o+3,none⟩=false/\b<w1.heap.size/\(∀j,j<8->w1.cell? ⟨b,o+j,none⟩=(t.cells rv sv)[j]?) /\
 TM (w1.setCell ⟨b,o+3,none⟩ v') b pre post E B { t with start:=t.start++[x]} rv v'/\gU B b w0 (w1.setCell ⟨b,o+3,none⟩ v'):=by
 obtain⟨hb,hs,hf⟩:=h.K' g;have hc:w1.cell? ⟨b,o+3,none⟩=some sv:=by
  rw[hb.cell,ho,Array.append_assoc,Array.getElem?_append_right (by omega),Array.getElem?_append_left (by simp[TT.cells]),Nat.add_sub_cancel_left];rfl
 refine⟨hc,hb.frozen _,hb.lt,fun j hj=>?_,⟨?_,h.lt,?_,?_,?_,h.small,h.whole⟩,?_⟩
 ·rw[hb.cell,ho,Array.append_assoc,Array.getElem?_append_right (by omega),Array.getElem?_append_left (by simp[TT.cells];omega),Nat.add_sub_cancel_left]
 ·exact nf (cs:=t.cells rv sv) (cs':=TT.cells { t with start:=t.start++[x]} rv v') hb ho (by simp[TT.cells]) v' rfl
 ·have:=hf.size;have:=h.up;simp[World.setCell];omega
 ·exact cB hs h.lt _ _
 ·rw[show({t with start:=t.start++[x]}:TT).start=t.start++[x] from rfl,fk,List.length_append];exact cB aG h.lt _ _
 ·exact hf.set (Or.inl rfl) _
theorem Pd(h:TM w0 b pre post E B t rv sv){p:PT}(hp:ez p){o:Nat}(ho:o=pre.size):
 TM ((((w0.setCell ⟨b,o+4,none⟩ (.int .i64 p.len)).setCell ⟨b,o+5,none⟩ (.int .i64 p.nl)).setCell ⟨b,o+6,none⟩ (.int .i64 p.first)).setCell ⟨b,o+7,none⟩ (.int .i64 p.last)) b pre post E B { t with whole:=p} rv sv /\
 gU B b w0 ((((w0.setCell ⟨b,o+4,none⟩ (.int .i64 p.len)).setCell ⟨b,o+5,none⟩ (.int .i64 p.nl)).setCell ⟨b,o+6,none⟩ (.int .i64 p.first)).setCell ⟨b,o+7,none⟩ (.int .i64 p.last)):=by
 refine⟨⟨?_,h.lt,by have:=h.up;simp[World.setCell];omega,?_,?_,h.small,hp⟩,?_⟩
 ·have h4:=nf (cs:=t.cells rv sv) (cs':=#[.int .i64 t.kind,.int .i64 t.syms,rv,sv,.int .i64 p.len,.int .i64 t.whole.nl,.int .i64 t.whole.first,.int .i64 t.whole.last]) h.aD ho (j:=4) (by simp[TT.cells]) (.int .i64 p.len) rfl;have h5:=nf (cs':=#[.int .i64 t.kind,.int .i64 t.syms,rv,sv,.int .i64 p.len,.int .i64 p.nl,.int .i64 t.whole.first,.int .i64 t.whole.last]) h4 ho (j:=5) (by simp) (.int .i64 p.nl) rfl;have h6:=nf (cs':=#[.int .i64 t.kind,.int .i64 t.syms,rv,sv,.int .i64 p.len,.int .i64 p.nl,.int .i64 p.first,.int .i64 t.whole.last]) h5 ho (j:=6) (by simp) (.int .i64 p.first) rfl;exact nf (cs':=TT.cells { t with whole:=p} rv sv) h6 ho (j:=7) (by simp) (.int .i64 p.last) rfl
 ·exact cB (cB (cB (cB h.rules h.lt _ _) h.lt _ _) h.lt _ _) h.lt _ _
 ·exact cB (cB (cB (cB h.start h.lt _ _) h.lt _ _) h.lt _ _) h.lt _ _
 ·exact((((gU.refl B b w0).set (Or.inl rfl) _).set (Or.inl rfl) _).set (Or.inl rfl) _).set (Or.inl rfl) _
end
theorem fB{w:World}{b E B:Nat}{pre post:Array Value}{t:TT}{rv sv:Value}(h:TM w b pre post E B t rv sv){o:Nat}(ho:o=pre.size)(s:Nat)(hs:s<=100000)(hlen:t.rules.length<=90000)(dy:t.start.length<=90000):
 Calls Tryz.prog 130 #[.pointer (some ⟨b,o,none⟩),.int .i64 (s:Int)] w fun e w'=>e=.returned (.tuple #[])/\gU B b w w'/\∃v',TM w' b pre post E B { t with start:=t.start++[s],whole:=jy t.whole (partAt t.rules s)} rv v':=by
 obtain⟨i0,kQ,jh,dP,dB⟩:=info_parts Ft;have h1:Hid (Calls _ _ _ w _):=wi h ho s hs (by omega);have hj:Hid (∀w,Calls _ _ _ w _):=fun w=>DZ t.whole (partAt t.rules s) h.whole (h.ke s) w;have iZ:ez (jy t.whole (partAt t.rules s)):=yN h.whole (h.ke s);generalize jy t.whole (partAt t.rules s)=x at *;obtain⟨p1,p2,p3,p4⟩:=x;generalize partAt t.rules s=pa at *;obtain⟨a1,a2,a3,a4⟩:=pa;unfold PT.val PT.arr at h1 hj;simp only[]at h1 hj;have M0:Hid (o=pre.size):=ho;clear ho;go_enter Tryz.func130,Tryz.ntmps130
 go_wp2_with fail
 refine h1.out.mono ?_;rintro e w1 ⟨rfl,k1⟩;have hT:=h.kept k1;have c3:w1.cell? ⟨b,o+3,none⟩=some sv:=hT.cell M0.out 3 (by omega);have pU:b<w1.heap.size:=hT.aD.lt;have own:∀o1 o2,((w1.alloc o1).alloc o2).ownsRow B 3 1 sv t.start.length (aF t.start):=fun o1 o2=>(h.kept ((k1.alloc o1).alloc o2)).start;have up:∀o1 o2,B<=((w1.alloc o1).alloc o2).heap.size:=fun o1 o2=>(h.kept ((k1.alloc o1).alloc o2)).up;have mb:t.start.length+1<=maxLen:=by unfold maxLen;omega
 have V8:Hid (∀o1 o2,Kept [] w ((w1.alloc o1).alloc o2)):=fun o1 o2=>(k1.alloc o1).alloc o2;have DA:w.heap.size<=w1.heap.size:=k1.size;clear hT k1 h1;go_wp2_with (at_builtin;refine wpList_append_own _ rfl (.tmp 12) (.tmp 14) 68 rfl B 3 i0 _ 1 8 Tryz.underlying68 kQ jh dP dB rfl (by decide) sv t.start.length (aF t.start) rfl ?own ⟨w1.heap.size+1,0,none⟩ 1 1 [.int .i64 (s:Int)] rfl rfl ?c1 ?c2 ?b1 ?b2 ?b3 ?k)
 case own=>exact own _ _
 case c1=>exact bM _ _ _ _ (by simp)
 case c2=>simp[Value.oneCell']
 case b1=>exact mb
 case b2=>omega
 case b3=>exact up _ _
 case k=>
  intro v' w3 aG ay _;obtain⟨g,cap,rfl⟩:=aO aG (by omega);have KA:=h.kept (V8.out (.cells #[.int .i64 a1,.int .i64 a2,.int .i64 a3,.int .i64 a4] 84) (.cells #[.int .i64 s] 3));obtain⟨e3,f3,b3,sI,kf,Pb⟩:=Pc (x:=s) KA ay aG M0.out;have hA:ah w3 w1.heap.size #[.int .i64 a1,.int .i64 a2,.int .i64 a3,.int .i64 a4] 84:=
   (ay.block _ (by simp;omega) (fun hc=>by have:=(h.start.lt _ hc.symm).2;omega)).trans ((ah.new w1 _ _).alloc _)
  have hF2H:Hid (gU B b w _):=(gU.sY (V8.out _ _) h.up).trans Pb;have hT2H:Hid (TM _ _ _ _ _ _ _ _ _):=kf;have pS:w1.heap.size<w3.heap.size:=hA.lt;have d0:w3.cell? ⟨w1.heap.size,0,none⟩=some (.int .i64 a1):=hA.cell 0;have d1:w3.cell? ⟨w1.heap.size,1,none⟩=some (.int .i64 a2):=hA.cell 1;have d2:w3.cell? ⟨w1.heap.size,2,none⟩=some (.int .i64 a3):=hA.cell 2;have d3:w3.cell? ⟨w1.heap.size,3,none⟩=some (.int .i64 a4):=hA.cell 3;have g4:w3.cell? ⟨b,o+4,none⟩=some (.int .i64 t.whole.len):=sI 4 (by omega);have g5:w3.cell? ⟨b,o+4+1,none⟩=some (.int .i64 t.whole.nl):=sI 5 (by omega);have g6:w3.cell? ⟨b,o+4+2,none⟩=some (.int .i64 t.whole.first):=sI 6 (by omega);have g7:w3.cell? ⟨b,o+4+3,none⟩=some (.int .i64 t.whole.last):=sI 7 (by omega);have fx:b≠w1.heap.size:=by omega
  clear KA ay aG sI hA kf Pb own up V8 c3;go_wp2_with fail
  go_region_law (go_simp;go_at_call 163;refine(hj.out _).mono ?_;rintro _ w5 ⟨rfl,k5⟩;have wY:=(hT2H.out.kept ((Kept.refl [] _).drew)).kept k5;have r4:w5.cell? ⟨b,o+4,none⟩=some (.int .i64 t.whole.len):=wY.cell M0.out 4 (by omega);have r5:w5.cell? ⟨b,o+4+1,none⟩=some (.int .i64 t.whole.nl):=wY.cell M0.out 5 (by omega);have r6:w5.cell? ⟨b,o+4+2,none⟩=some (.int .i64 t.whole.first):=wY.cell M0.out 6 (by omega);have r7:w5.cell? ⟨b,o+4+3,none⟩=some (.int .i64 t.whole.last):=wY.cell M0.out 7 (by omega);have q4:w5.frozen? ⟨b,o+4,none⟩=false:=wY.aD.frozen _;have q5:w5.frozen? ⟨b,o+4+1,none⟩=false:=wY.aD.frozen _;have q6:w5.frozen? ⟨b,o+4+2,none⟩=false:=wY.aD.frozen _;have q7:w5.frozen? ⟨b,o+4+3,none⟩=false:=wY.aD.frozen _;have q8:=wY.aD.lt)
  all_goals
   obtain⟨V9,hF6⟩:=Pd wY iZ M0.out;have La:Hid (TM _ _ _ _ _ _ _ _ _):=V9;have hF7:Hid (gU B b w _):=(hF2H.out.trans ((gU.sY ((Kept.refl [] _).drew.trans k5) hT2H.out.up).trans hF6));clear V9 hF6 wY;go_wp2
   go_end0;exact⟨rfl,hF7.out,_,La.out⟩
def bt(f:ByteArray)(i:Nat):Nat:=if h:i<f.size then f[i].toNat else 0
theorem nh{f:ByteArray}{i:Nat}(h:i<f.size):bt f i=f[i].toNat:=dif_pos h
theorem Sr(f:ByteArray)(i:Nat):bt f i<256:=by
 unfold bt;split
 ·exact f[i].toNat_lt
 ·omega
def RG(w:World)(b:Nat)(f:ByteArray)(s:RS):Prop:=ah w b #[.string f,.int .i64 (s.1:Int),.bool s.2] 208
def cw(f:ByteArray)(s:RS):Nat×RS:=if s.1<f.size then (bt f s.1,(s.1+1,s.2)) else (0,(s.1,true))
def gJ(f:ByteArray)(s:RS):Nat->Nat×RS
 | 0=>(0,s)
 | i+1=>((gJ f s i).1+(cw f (gJ f s i).2).1*256 ^ i,(cw f (gJ f s i).2).2)
def aX(f:ByteArray)(bytes most:Nat)(s:RS):Nat×RS:=if most<(gJ f s bytes).1 then (0,((gJ f s bytes).2.1,true)) else gJ f s bytes
theorem Ss(f:ByteArray)(s:RS):s.1<=(cw f s).2.1/\(cw f s).2.1<=s.1+1:=by unfold cw;split <;> simp
theorem Pe(w:World)(b:Nat)(f:ByteArray)(s:RS)(h:RG w b f s)(hf:f.size<=100000)(hs:s.1<=100000):
 Calls Tryz.prog 193 #[.pointer (some ⟨b,0,none⟩)] w fun e w'=>e=.returned (.int .i64 ((cw f s).1:Int))/\RG w' b f (cw f s).2/\Kept [b] w w':=by
 obtain⟨p,bad⟩:=s;have c0:w.cell? ⟨b,0,none⟩=some (.string f):=h.cell 0;have c1:w.cell? ⟨b,1,none⟩=some (.int .i64 (p:Int)):=h.cell 1;have c2:w.cell? ⟨b,2,none⟩=some (.bool bad):=h.cell 2;have f1:w.frozen? ⟨b,1,none⟩=false:=h.frozen 1;have f2:w.frozen? ⟨b,2,none⟩=false:=h.frozen 2;simp only[]at hs;have g0:¬(p:Int)<0:=by omega
 by_cases hp:p<f.size
 ·have e:cw f (p,bad)=(f[p].toNat,(p+1,bad)):=by unfold cw;rw[if_pos hp,nh hp]
  rw[e];have hH:Hid (RG w b f (p,bad)):=h;have g1:¬(f.size:Int)<=(p:Int):=by omega
  have g2:(p:Int)<(f.size:Int):=by omega
  clear h e;go_enter Tryz.func193,Tryz.ntmps193
  go_wp2_with fail
  go_quiet (fail)
  go_wp2_with fail
  go_quiet (fail)
  go_wp2
  go_ret;exact⟨bQ (by have:=f[p].toNat_lt;exact wrap64_in _ (by omega)),ah.set hH.out 1 _,((Kept.refl [b] w).drewN _).setCell (p:=⟨b,1,none⟩) (by simp) _⟩
 ·have e:cw f (p,bad)=(0,(p,true)):=by unfold cw;rw[if_neg hp]
  rw[e];have hH:Hid (RG w b f (p,bad)):=h;have g1:(f.size:Int)<=(p:Int):=by omega
  clear h e;go_enter Tryz.func193,Tryz.ntmps193
  go_wp2_with fail
  go_quiet (fail)
  go_wp2
  go_ret;exact⟨rfl,ah.set hH.out 2 _,((Kept.refl [b] w).drewN _).setCell (p:=⟨b,2,none⟩) (by simp) _⟩
theorem Bc(f:ByteArray)(s:RS):(cw f s).1<256:=by
 unfold cw;split
 ·exact Sr f s.1
 ·omega
theorem Fu(f:ByteArray)(s:RS):∀i,s.1<=(gJ f s i).2.1/\(gJ f s i).2.1<=s.1+i
 | 0=>⟨Nat.le_refl _,Nat.le_refl _⟩
 | i+1=>by
   have h1:=Fu f s i;have h2:=Ss f (gJ f s i).2;show s.1<=(cw f (gJ f s i).2).2.1/\(cw f (gJ f s i).2).2.1<=s.1+(i+1);omega
theorem yP(f:ByteArray)(s:RS):(gJ f s 1).1<256/\(gJ f s 2).1<65536:=by
 have h1:=Bc f s;have h2:=Bc f (cw f s).2;have e1:(gJ f s 1).1=0+(cw f s).1*256 ^ 0:=rfl;have e2:(gJ f s 2).1=(0+(cw f s).1*256 ^ 0)+(cw f (cw f s).2).1*256 ^ 1:=rfl;rw[e1,e2];omega
theorem Ie(w:World)(b:Nat)(f:ByteArray)(s:RS)(h:RG w b f s)(hf:f.size<=100000)(hs:s.1<=99000)(n:Nat)(hn:n=1\/n=2):
 Calls Tryz.prog 162 #[.pointer (some ⟨b,0,none⟩),.int .i64 (n:Int)] w fun e w'=>e=.returned (.int .i64 ((gJ f s n).1:Int))/\RG w' b f (gJ f s n).2/\Kept [b] w w':=by
 have hx:Hid (∀w s,RG w b f s->s.1<=100000->Calls _ _ _ w _):=fun w s h hs=>Pe w b f s h hf hs;have nP:Hid (n=1\/n=2):=hn;clear hn;go_enter Tryz.func162,Tryz.ntmps162
 go_wp2_with fail
 go_loopw [5,6] (fun nv iv wr=>∃q:Nat,iv=.int .i64 (q:Int)/\q<=n/\nv=.int .i64 ((gJ f s q).1:Int)/\RG wr b f (gJ f s q).2/\Kept [b] w wr) (fun _ iv _=>((n:Int)-intOf iv).toNat)
 case atStart=>exact⟨0,rfl,Nat.zero_le _,rfl,h,Kept.refl _ _⟩
 case round=>
  obtain⟨q,rfl,hq,rfl,hr,hk⟩:=hrel;clear h;by_cases bO:(q:Int)<(n:Int)
  ·have Cy:q=0\/q=1:=by have:=nP.out;omega
   have jK:=(Fu f s q).2;have hc:Hid (Calls _ _ _ _ _):=hx.out _ _ hr (by omega);have hb:=Bc f (gJ f s q).2;have VX:(gJ f s q).1<65536:=by
    have:=yP f s;rcases Cy with rfl|rfl
    ·show 0<65536;omega
    ·omega
   have e1:Hid (gJ f s (q+1)=((gJ f s q).1+(cw f (gJ f s q).2).1*256 ^ q,(cw f (gJ f s q).2).2)):=rfl;generalize (gJ f s q).1=A at *;generalize cw f (gJ f s q).2=N at *;obtain⟨c,s2⟩:=N;simp only[]at hb;clear hx hr jK;rcases Cy with rfl|rfl
   ·go_wp2_with fail
    refine hc.out.mono ?_;rintro e w2 ⟨rfl,r2,k2⟩;have k2:Hid (Kept _ _ _):=hk.trans k2;have r2:Hid (RG _ _ _ _):=r2;clear hk hc;go_wp2
    refine⟨⟨1,rfl,by omega,by rw[e1.out];simp only[Nat.pow_zero,Nat.mul_one,Int.natCast_add],by rw[e1.out];exact r2.out,k2.out⟩,?_⟩;simp only[intOf];omega
   ·go_wp2_with fail
    refine hc.out.mono ?_;rintro e w2 ⟨rfl,r2,k2⟩;have k2:Hid (Kept _ _ _):=hk.trans k2;have r2:Hid (RG _ _ _ _):=r2;clear hk hc;go_wp2
    refine⟨⟨2,rfl,by omega,by rw[e1.out];simp only[Nat.pow_one,Int.natCast_add,Int.natCast_mul];rfl,by rw[e1.out];exact r2.out,k2.out⟩,?_⟩;simp only[intOf];omega
  ·have tw:q=n:=by omega
   subst tw;have hk:Hid (Kept _ _ _):=hk;have hr:Hid (RG _ _ _ _):=hr;clear hx;go_wp2
   go_ret;exact⟨rfl,hr.out,hk.out⟩
theorem RG.mark{w:World}{b:Nat}{f:ByteArray}{s:RS}(h:RG w b f s):RG (w.setCell ⟨b,2,none⟩ (.bool true)) b f (s.1,true):=h.set 2 _
theorem mA(f:ByteArray)(n m:Nat)(s:RS):s.1<=(aX f n m s).2.1/\(aX f n m s).2.1<=s.1+n:=by
 have:=Fu f s n;unfold aX;split
 ·exact this
 ·exact this
theorem mC(f:ByteArray)(n m:Nat)(s:RS):(aX f n m s).1<=m:=by
 unfold aX;split
 ·omega
 ·rename_i h;omega
theorem uA(w:World)(b:Nat)(f:ByteArray)(s:RS)(h:RG w b f s)(hf:f.size<=100000)(hs:s.1<=99000)(n:Nat)(hn:n=1\/n=2)(m:Nat)(hm:m<=100000):
 Calls Tryz.prog 127 #[.pointer (some ⟨b,0,none⟩),.int .i64 (n:Int),.int .i64 (m:Int)] w fun e w'=>e=.returned (.int .i64 ((aX f n m s).1:Int))/\RG w' b f (aX f n m s).2/\Kept [b] w w':=by
 have hx:Hid (Calls _ _ _ w _):=Ie w b f s h hf hs n hn;have bO:(gJ f s n).1<65536:=by
  have:=yP f s;rcases hn with rfl|rfl <;> omega
 unfold aX;generalize gJ f s n=N at *;obtain⟨c,s2⟩:=N;simp only[]at bO hx ⊢;clear h hn;by_cases hc:(m:Int)<(c:Int)
 ·rw[if_pos (by omega)];go_enter Tryz.func127,Tryz.ntmps127
  go_wp2_with fail
  refine hx.out.mono ?_;rintro e w2 ⟨rfl,r2,k2⟩;have c2:w2.cell? ⟨b,2,none⟩=some (.bool s2.2):=r2.cell 2;have f2:w2.frozen? ⟨b,2,none⟩=false:=r2.frozen 2;have hR:Hid (RG _ _ _ _):=r2.mark;have hK:Hid (Kept [b] w (w2.setCell ⟨b,2,none⟩ (.bool true))):=k2.setCell (by simp) _;clear r2 k2 hx;go_wp2
  go_ret;exact⟨rfl,hR.out,hK.out⟩
 ·rw[if_neg (by omega)];go_enter Tryz.func127,Tryz.ntmps127
  go_wp2_with fail
  refine hx.out.mono ?_;rintro e w2 ⟨rfl,r2,k2⟩;have hR:Hid (RG _ _ _ _):=r2;have hK:Hid (Kept _ _ _):=k2;clear r2 k2 hx;go_wp2
  go_ret;exact⟨rfl,hR.out,hK.out⟩
theorem nV(w:World)(b:Nat)(f:ByteArray)(s:RS)(h:RG w b f s)(hf:f.size<=100000)(hs:s.1<=99000)(r:Nat)(hr:r<=1000):
 Calls Tryz.prog 128 #[.pointer (some ⟨b,0,none⟩),.int .i64 (r:Int)] w fun e w'=>e=.returned (.int .i64 ((aX f 2 (255+r) s).1:Int))/\RG w' b f (aX f 2 (255+r) s).2/\Kept [b] w w':=by
 have hx:=uA w b f s h hf hs 2 (Or.inr rfl) (255+r) (by omega);have e:((255+r:Nat):Int)=256+(r:Int)-1:=by omega
 rw[e]at hx;have hx:Hid (Calls _ _ _ _ _):=hx;generalize aX f 2 (255+r) s=N at *;clear e h;go_enter Tryz.func128,Tryz.ntmps128
 go_wp2_with fail
 refine hx.out.mono ?_;rintro e w2 ⟨rfl,r2,k2⟩;have hR:Hid (RG _ _ _ _):=r2;have hK:Hid (Kept _ _ _):=k2;clear r2 k2 hx;go_wp2
 go_ret;exact⟨rfl,hR.out,hK.out⟩
def qW(f:ByteArray)(s:RS):Nat->List RU×RS
 | 0=>([],s)
 | i+1=>
   ((qW f s i).1++[yM (qW f s i).1 (aX f 2 (255+i) (qW f s i).2).1 (aX f 2 (255+i) (aX f 2 (255+i) (qW f s i).2).2).1],
    (aX f 2 (255+i) (aX f 2 (255+i) (qW f s i).2).2).2)
def Ig(f:ByteArray)(m:Nat)(s:RS):Nat->List Nat×RS
 | 0=>([],s)
 | i+1=>((Ig f m s i).1++[(aX f 2 m (Ig f m s i).2).1],(aX f 2 m (Ig f m s i).2).2)
def rZ(rs:List RU)(l:List Nat):PT:=l.foldl (fun p s=>jy p (partAt rs s)) {}
def ja(f:ByteArray):Nat×RS:=aX f 1 100 (2,false)
def Cz(f:ByteArray):List RU×RS:=qW f (ja f).2 (ja f).1
def CA(f:ByteArray):Nat×RS:=aX f 2 1000 (Cz f).2
def CY(f:ByteArray):List Nat×RS:=Ig f (255+(ja f).1) (CA f).2 (CA f).1
def kg(f:ByteArray):Bool:=!(CY f).2.2&&decide (f.size<=(CY f).2.1)
def M1(f:ByteArray):TT:={kind:=71,syms:=(CA f).1,rules:=(Cz f).1,start:=(CY f).1,whole:=rZ (Cz f).1 (CY f).1}
theorem D4{f:ByteArray}{s:RS}(h:s.2=true):(cw f s).2.2=true:=by unfold cw;split <;> simp[h]
theorem Ih{f:ByteArray}{s:RS}(h:s.2=true):∀i,(gJ f s i).2.2=true
 | 0=>h
 | i+1=>D4 (Ih h i)
theorem kh{f:ByteArray}{n m:Nat}{s:RS}(h:s.2=true):(aX f n m s).2.2=true:=by
 unfold aX;split
 ·rfl
 ·exact Ih h n
theorem Fv{f:ByteArray}{s:RS}{i:Nat}(h:(qW f s i).2.2=true):∀j,(qW f s (i+j)).2.2=true
 | 0=>h
 | j+1=>kh (kh (Fv h j))
theorem zK{f:ByteArray}{m:Nat}{s:RS}{i:Nat}(h:(Ig f m s i).2.2=true):∀j,(Ig f m s (i+j)).2.2=true
 | 0=>h
 | j+1=>kh (zK h j)
theorem Fx(f:ByteArray)(s:RS):∀i,(qW f s i).1.length=i
 | 0=>rfl
 | i+1=>by
   show(_++[_]).length=i+1;rw[List.length_append,Fx f s i];rfl
theorem Lb(f:ByteArray)(s:RS):∀i,(qW f s i).2.1<=s.1+4*i
 | 0=>Nat.le_refl _
 | i+1=>by
   have h0:=Lb f s i;have h1:=(mA f 2 (255+i) (qW f s i).2).2;have h2:=(mA f 2 (255+i) (aX f 2 (255+i) (qW f s i).2).2).2;show(aX f 2 (255+i) (aX f 2 (255+i) (qW f s i).2).2).2.1<=s.1+4*(i+1);omega
theorem Lc{f:ByteArray}(h:(CY f).2.2=true):kg f=false:=by unfold kg;rw[h];rfl
theorem Ld{f:ByteArray}(h:(CA f).2.2=true):kg f=false:=by
 refine Lc ?_;have:=zK (f:=f) (m:=255+(ja f).1) (s:=(CA f).2) (i:=0) h (CA f).1;rwa [Nat.zero_add]at this
theorem St{f:ByteArray}(h:(Cz f).2.2=true):kg f=false:=Ld (kh h)
theorem Su{f:ByteArray}{i:Nat}(hi:i<=(ja f).1)(h:(qW f (ja f).2 i).2.2=true):kg f=false:=by
 refine St ?_;have:=Fv h ((ja f).1-i);rwa [show i+((ja f).1-i)=(ja f).1 by omega]at this
theorem Y3{f:ByteArray}{i:Nat}(hi:i<=(CA f).1)(h:(Ig f (255+(ja f).1) (CA f).2 i).2.2=true):kg f=false:=by
 refine Lc ?_;have:=zK h ((CA f).1-i);rwa [show i+((CA f).1-i)=(CA f).1 by omega]at this
theorem Ii(rs:List RU)(l:List Nat)(s:Nat):rZ rs (l++[s])=jy (rZ rs l) (partAt rs s):=by unfold rZ;rw[List.foldl_append];rfl
structure gV (f:ByteArray)(rs:List RU)(s:RS):Prop where
 bad:s.2=true->kg f=false
 ej:s.2=false->rs=(Cz f).1/\s=(Cz f).2
 len:rs.length<=100
 at_:s.1<=1000
structure dr (f:ByteArray)(rs:List RU)(n j:Nat)(l:List Nat)(p:PT)(s:RS):Prop where
 bad:s.2=true->kg f=false
 ej:s.2=false->rs=(Cz f).1/\n=(CA f).1/\l=(Ig f (255+(ja f).1) (CA f).2 j).1/\s=(Ig f (255+(ja f).1) (CA f).2 j).2/\p=rZ rs l
 len:rs.length<=100
 Y4:l.length=j
 at_:s.1<=2000+2*j
 up:n<=1000
theorem Fy(f:ByteArray):(ja f).1<=100/\(ja f).2.1<=3:=⟨mC _ _ _ _,(mA f 1 100 (2,false)).2⟩
theorem gV.of{f:ByteArray}{q:Nat}(hq:q<=(ja f).1)(h:(qW f (ja f).2 q).2.2=true\/q=(ja f).1):gV f (qW f (ja f).2 q).1 (qW f (ja f).2 q).2:=by
 have hb:=Fy f;have ha:=Lb f (ja f).2 q;refine⟨fun hx=>Su hq hx,fun hx=>?_,by rw[Fx];omega,by omega⟩;rcases h with h|h
 ·rw[hx]at h;cases h
 ·subst h;exact⟨rfl,rfl⟩
theorem gV.count{f:ByteArray}{rs:List RU}{s:RS}(h:gV f rs s):dr f rs (aX f 2 1000 s).1 0 [] {} (aX f 2 1000 s).2:=by
 have h1:=mA f 2 1000 s;refine⟨fun hx=>?_,fun hx=>?_,h.len,rfl,by have:=h.at_;omega,mC _ _ _ _⟩
 ·cases hs:s.2 with
  | true=>exact h.bad hs
  | false=>obtain⟨_,rfl⟩:=h.ej hs;exact Ld hx
 ·cases hs:s.2 with
  | true=>rw[kh hs]at hx;cases hx
  | false=>obtain⟨h2,rfl⟩:=h.ej hs;exact⟨h2,rfl,rfl,rfl,rfl⟩
theorem dr.next{f:ByteArray}{rs:List RU}{n j:Nat}{l:List Nat}{p:PT}{s:RS}(h:dr f rs n j l p s)(hj:j<n)(hs:s.2=false):
 dr f rs n (j+1) (l++[(aX f 2 (255+(ja f).1) s).1]) (jy p (partAt rs (aX f 2 (255+(ja f).1) s).1)) (aX f 2 (255+(ja f).1) s).2:=by
 have h1:=mA f 2 (255+(ja f).1) s;obtain⟨g1,g2,g3,g4,g5⟩:=h.ej hs;refine⟨fun hx=>?_,fun hx=>⟨g1,g2,?_,?_,?_⟩,h.len,by rw[List.length_append,h.Y4];rfl,by have:=h.at_;omega,h.up⟩
 ·rw[g4]at hx;exact Y3 (i:=j+1) (by omega) hx
 ·rw[g3,g4];rfl
 ·rw[g4];rfl
 ·rw[g5,Ii]
theorem dr.fin{f:ByteArray}{rs:List RU}{n:Nat}{l:List Nat}{p:PT}{s:RS}(h:dr f rs n n l p s)(hs:s.2=false):
 kg f=decide (f.size<=s.1)/\({kind:=71,syms:=n,rules:=rs,start:=l,whole:=p}:TT)=M1 f:=by
 obtain⟨g1,g2,g3,g4,g5⟩:=h.ej hs;subst g2;have e:(CY f).2=s:=g4.symm;refine⟨by unfold kg;rw[e,hs];rfl,?_⟩;unfold M1;rw[g5,g3,g1];rfl
end Go.Proofs.YtgifhgnccmnbiabGreatDoor
