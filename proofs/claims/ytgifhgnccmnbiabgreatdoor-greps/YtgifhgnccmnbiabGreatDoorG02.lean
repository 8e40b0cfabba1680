/- Part of the proof. -/
import Derived.Test.YtgifhgnccmnbiabGreatDoorG01
import Derived.Deep.RegionLaw
set_option linter.unusedVariables false
set_option linter.unusedSimpArgs false
set_option maxHeartbeats 4000000
set_option maxRecDepth 100000
namespace Go.Proofs.YtgifhgnccmnbiabGreatDoor
open Go.RowKit Go.IntWalk
theorem Q'(b:Nat)(t:ByteArray)(s:RS)(v:Value)(w:World)(h:RD w b t s v):
 Calls Tryz.prog 217 #[.pointer (some ⟨b,0,none⟩)] w fun e w'=>
  e=.returned (.agg #[.int .i64 (dn t s).1.1,.int .i64 (dn t s).1.2])/\RD w' b t (dn t s).2 v/\Kept [b] w w':=by
 have pU:b<w.heap.size:=h.aD.lt;have hz:RD (w.alloc (.cells #[.int .i64 0,.int .i64 0] 270)) b t s v:=h.kept (Kept.alloc (Kept.refl [] w) _) (by simp);have kz:Kept [b] w (w.alloc (.cells #[.int .i64 0,.int .i64 0] 270)):=Kept.alloc (Kept.refl _ w) _;have bz:ah (w.alloc (.cells #[.int .i64 0,.int .i64 0] 270)) w.heap.size #[.int .i64 0,.int .i64 0] 270:=ah.new _ _ _;clear h;have fin:∀(x:World) (lo hi:Int) (s':RS),RD x b t s' v->Kept [b] w x->ah x w.heap.size #[.int .i64 0,.int .i64 0] 270 ->
  ((x.setCell ⟨w.heap.size,0,none⟩ (.int .i64 lo)).setCell ⟨w.heap.size,1,none⟩ (.int .i64 hi)).cell? ⟨w.heap.size,0,none⟩=some (.int .i64 lo) /\
  ((x.setCell ⟨w.heap.size,0,none⟩ (.int .i64 lo)).setCell ⟨w.heap.size,1,none⟩ (.int .i64 hi)).cell? ⟨w.heap.size,1,none⟩=some (.int .i64 hi) /\
  RD ((x.setCell ⟨w.heap.size,0,none⟩ (.int .i64 lo)).setCell ⟨w.heap.size,1,none⟩ (.int .i64 hi)) b t s' v /\
  Kept [b] w ((x.setCell ⟨w.heap.size,0,none⟩ (.int .i64 lo)).setCell ⟨w.heap.size,1,none⟩ (.int .i64 hi)):=by
  intro x lo hi s' hr hk hb;have jm:=(hb.set 0 (.int .i64 lo)).set 1 (.int .i64 hi);refine⟨by rw[jm.cell];rfl,by rw[jm.cell];rfl,⟨ah.other (ah.other hr.aD _ _ (by omega)) _ _ (by omega),hr.fits,hr.small⟩,(hk.setCell (Or.inr (Nat.le_refl _)) _).setCell (Or.inr (Nat.le_refl _)) _⟩
 by_cases hq:oo t (dC t s).2=true
 ·have e1:fV t s=dC t ((dC t s).2.1+1,(dC t s).2.2):=if_pos hq;have hl:(dC t s).2.1<t.size:=zX hq;by_cases hc:(fV t s).1<(dC t s).1
  ·have e2:dn t s=(((dC t s).1,(fV t s).1),cN t):=by unfold dn;rw[if_pos hc]
   rw[e2];rw[e1]at hc ⊢;clear e1 e2;go_enter Tryz.func217,Tryz.ntmps217
   go_wp2_with fail
   refine(mK b t s v _ hz).mono ?_;rintro e w1 ⟨rfl,h1,k1⟩;go_wp2_with fail
   refine(xh b t _ v _ h1).mono ?_;rintro e w1 ⟨rfl,rfl⟩;have q1:=h1.c1;have q2:=h1.f 1;have iZ:=h1.small;go_wp2_with fail
   refine(mK b t _ v _ (h1.upto _ hl)).mono ?_;rintro e w2 ⟨rfl,h2,k2⟩;go_wp2_with fail
   refine(fY b t _ v _ h2).mono ?_;rintro e w3 ⟨rfl,h3,k3⟩;have kk:=(k1.trans (((Kept.refl _ _).setCell (by simp) _).trans k2)).trans k3;have b3:=bz.kept kk (by simp;omega);have g0:=b3.frozen 0;have g1:=b3.frozen 1;have g2:=b3.cell 0;have g3:=b3.cell 1;obtain⟨r0,r1,r2,r3⟩:=fin w3 (dC t s).1 _ _ h3 (kz.trans kk) b3;go_wp2
   exact bodyPost_ret (v:=.agg #[.int .i64 _,.int .i64 _]) (by simp[results,Tryz.results217,go_sem,r0,r1]) rfl ⟨rfl,r2,r3⟩
  ·have e2:dn t s=(((dC t s).1,(fV t s).1),(fV t s).2):=by unfold dn;rw[if_neg hc]
   rw[e2];rw[e1]at hc ⊢;clear e1 e2;go_enter Tryz.func217,Tryz.ntmps217
   go_wp2_with fail
   refine(mK b t s v _ hz).mono ?_;rintro e w1 ⟨rfl,h1,k1⟩;go_wp2_with fail
   refine(xh b t _ v _ h1).mono ?_;rintro e w1 ⟨rfl,rfl⟩;have q1:=h1.c1;have q2:=h1.f 1;have iZ:=h1.small;go_wp2_with fail
   refine(mK b t _ v _ (h1.upto _ hl)).mono ?_;rintro e w2 ⟨rfl,h2,k2⟩;have kk:=k1.trans (((Kept.refl _ _).setCell (by simp) _).trans k2);have b3:=bz.kept kk (by simp;omega);have g0:=b3.frozen 0;have g1:=b3.frozen 1;have g2:=b3.cell 0;have g3:=b3.cell 1;obtain⟨r0,r1,r2,r3⟩:=fin w2 (dC t s).1 _ _ h2 (kz.trans kk) b3;go_wp2
   exact bodyPost_ret (v:=.agg #[.int .i64 _,.int .i64 _]) (by simp[results,Tryz.results217,go_sem,r0,r1]) rfl ⟨rfl,r2,r3⟩
 ·have e1:fV t s=dC t s:=if_neg hq;have e2:dn t s=(((dC t s).1,(dC t s).1),(dC t s).2):=by unfold dn;rw[e1,if_neg (by omega)]
  have hf:oo t (dC t s).2=false:=by simpa using hq
  rw[e2];clear e1 e2 hq;go_enter Tryz.func217,Tryz.ntmps217
  go_wp2_with fail
  refine(mK b t s v _ hz).mono ?_;rintro e w1 ⟨rfl,h1,k1⟩;go_wp2_with fail
  refine(xh b t _ v _ h1).mono ?_;rintro e w1 ⟨rfl,rfl⟩;have b3:=bz.kept k1 (by simp;omega);have g0:=b3.frozen 0;have g1:=b3.frozen 1;have g2:=b3.cell 0;have g3:=b3.cell 1;obtain⟨r0,r1,r2,r3⟩:=fin w1 (dC t s).1 (dC t s).1 _ h1 (kz.trans k1) b3;go_wp2
  exact bodyPost_ret (v:=.agg #[.int .i64 _,.int .i64 _]) (by simp[results,Tryz.results217,go_sem,r0,r1]) rfl ⟨rfl,r2,r3⟩
theorem Dh{t:ByteArray}{s:RS}(h:(ak t 44 (eg t s).2).1=true):bJ t s=JS t (ak t 44 (eg t s).2).2:=if_pos h
theorem zZ{t:ByteArray}{s:RS}(h:(ak t 44 (eg t s).2).1=false):bJ t s=((eg t s).1,(ak t 44 (eg t s).2).2):=if_neg (by rw[h];decide)
theorem z'{t:ByteArray}{s:RS}(h:(ak t 125 (bJ t s).2).1=false\/((bJ t s).1≠-1/\(bJ t s).1<(eg t s).1)):bH t s=((0,0),cN t):=if_pos h
theorem qY{t:ByteArray}{s:RS}(h:¬((ak t 125 (bJ t s).2).1=false\/((bJ t s).1≠-1/\(bJ t s).1<(eg t s).1))):
 bH t s=(((eg t s).1,(bJ t s).1),(ak t 125 (bJ t s).2).2):=if_neg h
theorem JV(b:Nat)(t:ByteArray)(s:RS)(v:Value)(w:World)(h:RD w b t s v):
 Calls Tryz.prog 215 #[.pointer (some ⟨b,0,none⟩)] w fun e w'=>
  e=.returned (.tuple #[.int .i64 (bH t s).1.1,.int .i64 (bH t s).1.2])/\RD w' b t (bH t s).2 v/\Kept [b] w w':=by
 have bd1:=EG t s;have bd2:=Mw t s;have front:∀(x:Bool),(ak t 44 (eg t s).2).1=x->True:=fun _ _=>trivial;clear front;by_cases ix:(ak t 125 (bJ t s).2).1=false
 ·have e2:=z' (Or.inl ix);rw[e2];clear e2;go_enter Tryz.func215,Tryz.ntmps215
  go_wp2_with fail
  refine(mm b t s v _ h).mono ?_;rintro e w1 ⟨rfl,h1,k1⟩;go_wp2_with fail
  refine(cE b 44 t _ v _ h1 (by omega) (by omega)).mono ?_;rintro e w2 ⟨rfl,h2,k2⟩;have N0:=k1.trans k2;clear h1 k1 k2;by_cases hm:(ak t 44 (eg t s).2).1=true
  ·have e1:=Dh hm;go_wp2_with fail
   refine(sH b t _ v _ h2).mono ?_;rw[<-e1];rintro e w3 ⟨rfl,h3,k3⟩;have Ym:=N0.trans k3;clear h2 N0 k3 e1 hm;go_wp2_with fail
   refine(cE b 125 t _ v _ h3 (by omega) (by omega)).mono ?_;rintro e w4 ⟨rfl,h4,k4⟩;go_wp2_with fail
   refine(fY b t _ v _ h4).mono ?_;rintro e w5 ⟨rfl,h5,k5⟩;go_wp2
   go_ret2;exact⟨rfl,h5,(Ym.trans k4).trans k5⟩
  ·have e1:=zZ (by simpa using hm);have hm':(ak t 44 (eg t s).2).1=false:=by simpa using hm
   have e3:(bJ t s).1=(eg t s).1:=by rw[e1]
   rw[e1]at ix;go_wp2_with fail
   refine(cE b 125 t _ v _ h2 (by omega) (by omega)).mono ?_;rintro e w4 ⟨rfl,h4,k4⟩;go_wp2_with fail
   refine(fY b t _ v _ h4).mono ?_;rintro e w5 ⟨rfl,h5,k5⟩;go_wp2
   go_ret2;exact⟨rfl,h5,(N0.trans k4).trans k5⟩
 have ix:(ak t 125 (bJ t s).2).1=true:=by simpa using ix
 by_cases hm:(ak t 44 (eg t s).2).1=true
 ·have e1:Hid (_=_):=Dh hm;by_cases hn:(bJ t s).1 = -1
  ·rw[qY (by rw[ix];simp[hn]),hn];go_enter Tryz.func215,Tryz.ntmps215
   go_wp2_with fail
   refine(mm b t s v _ h).mono ?_;rintro e w1 ⟨rfl,h1,k1⟩;go_wp2_with fail
   refine(cE b 44 t _ v _ h1 (by omega) (by omega)).mono ?_;rintro e w2 ⟨rfl,h2,k2⟩;go_wp2_with fail
   refine(sH b t _ v _ h2).mono ?_;rw[<-e1.out];rintro e w3 ⟨rfl,h3,k3⟩;go_wp2_with fail
   refine(cE b 125 t _ v _ h3 (by omega) (by omega)).mono ?_;rintro e w4 ⟨rfl,h4,k4⟩;go_wp2
   go_ret2;exact⟨rfl,h4,((k1.trans k2).trans k3).trans k4⟩
  by_cases hl:(bJ t s).1<(eg t s).1
  ·have hb:((bJ t s).1 != -1)=true:=by simpa using hn
   rw[z' (Or.inr ⟨hn,hl⟩)];clear hn;go_enter Tryz.func215,Tryz.ntmps215
   go_wp2_with fail
   refine(mm b t s v _ h).mono ?_;rintro e w1 ⟨rfl,h1,k1⟩;go_wp2_with fail
   refine(cE b 44 t _ v _ h1 (by omega) (by omega)).mono ?_;rintro e w2 ⟨rfl,h2,k2⟩;go_wp2_with fail
   refine(sH b t _ v _ h2).mono ?_;rw[<-e1.out];rintro e w3 ⟨rfl,h3,k3⟩;go_wp2_with fail
   refine(cE b 125 t _ v _ h3 (by omega) (by omega)).mono ?_;rintro e w4 ⟨rfl,h4,k4⟩;go_wp2_with fail
   refine(fY b t _ v _ h4).mono ?_;rintro e w5 ⟨rfl,h5,k5⟩;go_wp2
   go_ret2;exact⟨rfl,h5,(((k1.trans k2).trans k3).trans k4).trans k5⟩
  ·have hb:((bJ t s).1 != -1)=true:=by simpa using hn
   rw[qY (by rw[ix];simp;omega)];clear hn;go_enter Tryz.func215,Tryz.ntmps215
   go_wp2_with fail
   refine(mm b t s v _ h).mono ?_;rintro e w1 ⟨rfl,h1,k1⟩;go_wp2_with fail
   refine(cE b 44 t _ v _ h1 (by omega) (by omega)).mono ?_;rintro e w2 ⟨rfl,h2,k2⟩;go_wp2_with fail
   refine(sH b t _ v _ h2).mono ?_;rw[<-e1.out];rintro e w3 ⟨rfl,h3,k3⟩;go_wp2_with fail
   refine(cE b 125 t _ v _ h3 (by omega) (by omega)).mono ?_;rintro e w4 ⟨rfl,h4,k4⟩;go_wp2
   go_ret2;exact⟨rfl,h4,((k1.trans k2).trans k3).trans k4⟩
 ·have hm':(ak t 44 (eg t s).2).1=false:=by simpa using hm
  have e1:=zZ hm';have hb:((eg t s).1 != -1)=true:=by simp;omega
  rw[qY (by rw[ix,e1];simp),e1];rw[e1]at ix;clear e1 hm;go_enter Tryz.func215,Tryz.ntmps215
  go_wp2_with fail
  refine(mm b t s v _ h).mono ?_;rintro e w1 ⟨rfl,h1,k1⟩;go_wp2_with fail
  refine(cE b 44 t _ v _ h1 (by omega) (by omega)).mono ?_;rintro e w2 ⟨rfl,h2,k2⟩;go_wp2_with fail
  refine(cE b 125 t _ v _ h2 (by omega) (by omega)).mono ?_;rintro e w4 ⟨rfl,h4,k4⟩;go_wp2
  go_ret2;exact⟨rfl,h4,(k1.trans k2).trans k4⟩
theorem JX(b:Nat)(t:ByteArray)(s:RS)(v:Value)(w:World)(h:RD w b t s v):
 Calls Tryz.prog 207 #[.pointer (some ⟨b,0,none⟩)] w fun e w'=>
  e=.returned (.tuple #[.int .i64 (aC t s).1.1,.int .i64 (aC t s).1.2])/\RD w' b t (aC t s).2 v/\Kept [b] w w':=by
 by_cases ha:(aw t s).1=42
 ·have e:aC t s=((0,-1),(aw t s).2):=if_pos ha;rw[e];clear e;go_enter Tryz.func207,Tryz.ntmps207
  go_wp2_with fail
  refine(cD b t s v _ h).mono ?_;rintro e w1 ⟨rfl,h1,k1⟩;go_wp2
  go_ret2;exact⟨rfl,h1,k1⟩
 by_cases hb:(aw t s).1=43
 ·have e:aC t s=((1,-1),(aw t s).2):=by unfold aC;rw[if_neg ha,if_pos hb]
  rw[e];clear e;go_enter Tryz.func207,Tryz.ntmps207
  go_wp2_with fail
  refine(cD b t s v _ h).mono ?_;rintro e w1 ⟨rfl,h1,k1⟩;go_wp2
  go_ret2;exact⟨rfl,h1,k1⟩
 by_cases hc:(aw t s).1=63
 ·have e:aC t s=((0,1),(aw t s).2):=by unfold aC;rw[if_neg ha,if_neg hb,if_pos hc]
  rw[e];clear e;go_enter Tryz.func207,Tryz.ntmps207
  go_wp2_with fail
  refine(cD b t s v _ h).mono ?_;rintro e w1 ⟨rfl,h1,k1⟩;go_wp2
  go_ret2;exact⟨rfl,h1,k1⟩
 ·have e:aC t s=bH t (aw t s).2:=by unfold aC;rw[if_neg ha,if_neg hb,if_neg hc]
  have ha':((aw t s).1==42)=false:=by simpa using ha
  have Vc:((aw t s).1==43)=false:=by simpa using hb
  have hc':((aw t s).1==63)=false:=by simpa using hc
  rw[e];clear e ha hb hc;go_enter Tryz.func207,Tryz.ntmps207
  go_wp2_with fail
  refine(cD b t s v _ h).mono ?_;rintro e w1 ⟨rfl,h1,k1⟩;go_wp2_with fail
  refine(JV b t _ v _ h1).mono ?_;rintro e w2 ⟨rfl,h2,k2⟩;go_wp2
  go_ret2;exact⟨rfl,h2,k1.trans k2⟩
theorem cF{P:Program}{ops:Array Oper}{o:Oper}{a:Act}{w:World}{K:Act->World->Prop}{Q:Exit->Act->World->Prop}{E:Prop}
 (hg:o.guard=none) (s x:Operand) (t:TypeId) (Yn:o.op=Op.call { callee:=Callee.builtin Builtin.append,args:=#[s,x],argTypes:=#[t,t]})
 (e:TypeId) (i:TypeInfo) (z:Value) (size bytes:Nat) (h1:P.underlying t=some (.slice e)) (h2:P.info? e=some i) (h3:i.zero=some z) (h4:i.size=size) (h5:i.bytes=bytes) (h6:z.cells.size=size) (h7:0<size)
 (base:Nat) (v:Value) (n:Nat) (xs:List Value) (hs:a.eval s=v) (aG:w.ownsRow base e size v n xs)
 (ad:Addr) (m c:Nat) (news:List Value) (hx:a.eval x=.slice (some ad) m c) (hn:news.length=m*size) (hc:∀j u,news[j]?=some u->w.cell? (ad.add j)=some u) (h1c:∀u∈news,u.oneCell'=true)
 (b1:n+m<=maxLen) (b2:(n+m)*bytes<=140737488355328) (jn:base<=w.heap.size)
 (hK:∀v' w',w'.ownsRow base e size v' (n+m) (xs++news)->w.grownBy w' v.ownBlock->K (a.put o.dst v') w'):
 if Region.wanted o (yielded ops a.tmps)=true then Oper.wp P o a w K Q else E:=by
 have hw:Region.wanted o (yielded ops a.tmps)=true:=by simp[Region.wanted,hg]
 rw[if_pos hw];obtain⟨v',w',zc,r1,r2,_⟩:=run_append_own (P:=P) w base t o.type e i z size bytes h1 h2 h3 h4 h5 h6 h7 v n xs aG ad m c news hn hc h1c b1 b2 jn;unfold Oper.wp;simp[execOp,Yn,resolve,invoke,builtin,hs,hx,zc,Result.andThen];exact hK v' w' r1 r2
abbrev IV:=Option Addr×Nat×Nat
def fF(x:IV):Value:=.slice x.1 x.2.1 x.2.2
def AN.cells(n:AN)(x:IV):List Value:=
 [.int .i64 n.kind,.slice x.1 x.2.1 x.2.2,.bool n.neg,.int .i64 n.left,.int .i64 n.right,.int .i64 n.least,.int .i64 n.most,.int .i64 n.size]
def bZ:List AN->List IV->List Value
 | n :: ns,x :: xs=>n.cells x++bZ ns xs
 | _,_=>[]
def gq:List (Int×Int)->List Value
 | []=>[]
 | x :: r=>.int .i64 x.1 :: .int .i64 x.2 :: gq r
theorem qx:∀(ns:List AN) (xs:List IV) (n:AN) (x:IV),xs.length=ns.length->bZ (ns++[n]) (xs++[x])=bZ ns xs++n.cells x
 | [],[],n,x,_=>by simp[bZ]
 | [],_ :: _,n,x,h=>by simp at h
 | m :: ns,y :: xs,n,x,h=>by simp[bZ,qx ns xs n x (by simpa using h)]
 | m :: ns,[],n,x,h=>by simp at h
theorem mL:∀(ns:List AN) (xs:List IV) (i j:Nat) (n:AN) (x:IV),ns[i]?=some n->xs[i]?=some x->j<8->(bZ ns xs)[i*8+j]?=(n.cells x)[j]?
 | [],_,i,j,n,x,h,_,_=>by simp at h
 | m :: ns,[],i,j,n,x,_,h,_=>by simp at h
 | m :: ns,y :: xs,0,j,n,x,h,h',hj=>by
   simp at h h';subst h h';rw[bZ,Nat.zero_mul,Nat.zero_add,List.getElem?_append_left (by simp[AN.cells];omega)]
 | m :: ns,y :: xs,i+1,j,n,x,h,h',hj=>by
   simp at h h';rw[bZ,List.getElem?_append_right (by simp[AN.cells];omega)];have e:(i+1)*8+j-(m.cells y).length=i*8+j:=by simp[AN.cells];omega
   rw[e];exact mL ns xs i j n x h h' hj
theorem qZ:∀(l:List (Int×Int)) (x:Int×Int),gq (l++[x])=gq l++[.int .i64 x.1,.int .i64 x.2]
 | [],x=>rfl
 | y :: r,x=>by simp[gq,qZ r x]
def cj(w:World)(base:Nat)(x:IV)(cM:List (Int×Int)):Prop:=w.ownsRow base 270 2 (fF x) cM.length (gq cM)
structure NV (w:World)(b:Nat)(t:ByteArray)(s:RS)(ns:List AN)(v:Value)(xs:List IV):Prop where
 rd:RD w b t s v
 row:w.ownsRow (b+1) 164 8 v ns.length (bZ ns xs)
 len:xs.length=ns.length
 items:∀(i:Nat) (n:AN) (x:IV),ns[i]?=some n->xs[i]?=some x->cj w (b+1) x n.cM
 sized:Dc ns
def NS(w:World)(b:Nat)(t:ByteArray)(st:PS):Prop:=∃v xs,NV w b t st.1 st.2 v xs
section
variable {w w':World}{b:Nat}{t:ByteArray}{s s':RS}{ns:List AN}{v:Value}{xs:List IV}
theorem re{w:World}{base:Nat}{e:TypeId}{size:Nat}{v:Value}{n:Nat}{xs:List Value}(h:w.ownsRow base e size v n xs){g:Nat}(hg:v.ownBlock=some g):base<=g:=(h.lt g hg).1
theorem pV{w:World}{b1 b2 e1 e2 z1 z2:Nat}{v1 v2:Value}{n1 n2:Nat}{x1 x2:List Value}(h1:w.ownsRow b1 e1 z1 v1 n1 x1)(h2:w.ownsRow b2 e2 z2 v2 n2 x2)(he:e1≠e2):
 v1.ownBlock=none\/v1.ownBlock≠v2.ownBlock:=by
 rcases h1.2 with⟨rfl,_⟩|⟨g1,c1,u1,rfl,_,vb,_⟩
 ·exact Or.inl rfl
 ·refine Or.inr (fun hc=>?_);rcases h2.2 with⟨rfl,_⟩|⟨g2,c2,u2,rfl,_,QH,_⟩
  ·simp[Value.ownBlock]at hc
  ·simp only[Value.ownBlock,Option.some.injEq]at hc;subst hc;rw[vb]at QH;simp only[Option.some.injEq,Obj.cells.injEq]at QH;exact he QH.2.1
theorem NV.scan(h:NV w b t s ns v xs)(r:RD w' b t s' v)(k:Kept [b] w w'):NV w' b t s' ns v xs:=by
 have gr:w.grownBy w' (some b):=⟨k.os,k.tape,k.output,k.size,fun i hi hn=>k.block i hi (by simpa using hn)⟩;refine⟨r,h.row.kept gr ?_,h.len,fun i n x hn hx=>?_,h.sized⟩
 ·cases hv:v.ownBlock with
  | none=>exact Or.inl rfl
  | some g=>refine Or.inr ?_;have:=re h.row hv;simp;omega
 ·have h1:=h.items i n x hn hx;refine World.ownsRow.kept h1 gr ?_;cases hv:(fF x).ownBlock with
  | none=>exact Or.inl rfl
  | some g=>refine Or.inr ?_;have:=re h1 hv;simp;omega
end
theorem kP(b i:Nat)(t:ByteArray)(s:RS)(ns:List AN)(v:Value)(xs:List IV)(w:World)(h:NV w b t s ns v xs)(hi:i<ns.length)(hl:ns.length<=1000):
 Calls Tryz.prog 138 #[.pointer (some ⟨b,0,none⟩),.int .i64 (i:Int)] w fun e w'=>e=.returned (.int .i64 (au ns i))/\w'=w:=by
 have h2:=h.rd.c2;obtain⟨x,hx⟩:∃x,xs[i]?=some x:=by have:=h.len;exact⟨xs[i],List.getElem?_eq_getElem (by omega)⟩
 obtain⟨n,hn⟩:∃n,ns[i]?=some n:=⟨ns[i],List.getElem?_eq_getElem hi⟩;have G0:=mL ns xs i 7 n x hn hx (by omega);have hv:∃g cap,v=.slice (some ⟨g,0,none⟩) ns.length cap:=by
  rcases h.row.2 with⟨_,h⟩|⟨g,cap,_,h,_⟩
  ·omega
  ·exact⟨g,cap,h⟩
 obtain⟨g,cap,rfl⟩:=hv;have hc:w.cell? ⟨g,i*8+7,none⟩=some (.int .i64 n.size):=by
  have:=h.row.cells (g:=g) rfl (i*8+7) (.int .i64 n.size) (by rw[G0];rfl);rwa [show(⟨g,0,none⟩:Addr).add (i*8+7)=⟨g,i*8+7,none⟩ by simp[Addr.add]]at this
 have e:au ns i=n.size:=by simp[au,hn]
 rw[e];clear G0 e hn hx h;go_enter Tryz.func138,Tryz.ntmps138
 go_wp2
 go_ret;exact⟨rfl,rfl⟩
theorem ve{w:World}{base yt:Nat}{e:TypeId}{size:Nat}{v:Value}{n:Nat}{xs:List Value}(h:w.ownsRow base e size v n xs)(hb:yt<=base):w.ownsRow yt e size v n xs:=by
 refine⟨h.1,?_⟩;rcases h.2 with h2|⟨g,c,u,h3,h4,r⟩
 ·exact Or.inl h2
 ·exact Or.inr ⟨g,c,u,h3,Nat.le_trans hb h4,r⟩
section
variable {P:Program}(w:World)
theorem vf(base:Nat)(t ty e:TypeId)(i:TypeInfo)(z:Value)(size bytes:Nat)(ht:P.underlying t=some (.slice e))(hi:P.info? e=some i)(hz:i.zero=some z)
 (Di:i.size=size) (xi:i.bytes=bytes) (hzs:z.cells.size=size) (dd:0<size)
 (v:Value) (n:Nat) (xs:List Value) (aG:w.ownsRow base e size v n xs)
 (a:Addr) (m c:Nat) (news:List Value) (hl:news.length=m*size) (yu:∀j u,news[j]?=some u->w.cell? (a.add j)=some u) (h1:∀u∈news,u.oneCell'=true)
 (h63:n+m<=maxLen) (Aa:(n+m)*bytes<=140737488355328) (jn:base<=w.heap.size):
 ∃v' w',(Builtin.append_ #[t,t] ty #[v,.slice (some a) m c]).run P w=.ok v' w'/\w'.ownsRow base e size v' (n+m) (xs++news)/\w.grownBy w' v.ownBlock /\
  (v'.ownBlock=v.ownBlock\/∀g,v'.ownBlock=some g->w.heap.size<=g):=by
 rcases aG.2 with⟨rfl,rfl⟩|⟨g,cap,cur,rfl,hbg,hg,hnc,hcm,sI,Ra⟩
 ·have hx:xs=[]:=List.eq_nil_of_length_eq_zero (by simpa using aG.1);subst hx;obtain⟨v',w',r,o,gr,_⟩:=run_append_own (P:=P) w w.heap.size t ty e i z size bytes ht hi hz Di xi hzs dd (.slice none 0 0) 0 [] (World.ownsRow_nil w _ e size) a m c news hl yu h1 h63 Aa (Nat.le_refl _);exact⟨v',w',r,ve o jn,gr,Or.inr (fun g hg=>(o.lt g hg).1)⟩
 ·by_cases iS:n+m<=cap
  ·obtain⟨v',w',r,o,gr,_⟩:=run_append_own (P:=P) w base t ty e i z size bytes ht hi hz Di xi hzs dd _ n xs aG a m c news hl yu h1 h63 Aa jn;subst Di;have dD:n*i.size+news.length<=cur.size:=by rw[hl,sI,<-Nat.add_mul];exact Nat.mul_le_mul_right _ iS
   have hr:=run_append_room (P:=P) w t ty e i ht hi g n cap cur hg a m c news hl yu h1 iS dD;refine⟨v',w',r,o,gr,Or.inl ?_⟩;rw[hr]at r;simp only[Result.ok.injEq]at r;rw[<-r.1];rfl
  ·have holds:∀j u,xs[j]?=some u->w.cell? ((⟨g,0,none⟩:Addr).add j)=some u:=aG.cells (g:=g) rfl;obtain⟨v',w',r,o,gr⟩:=run_append_arg_grows (P:=P) w t ty e i z size bytes ht hi hz Di xi hzs dd ⟨g,0,none⟩ n cap xs aG.1 holds a m c news hl yu (by omega) h63 Aa;exact⟨v',w',r,ve o jn,⟨gr.os,gr.tape,gr.output,gr.size,fun k hk _=>gr.block k hk (by simp)⟩,Or.inr (fun g hg=>(o.lt g hg).1)⟩
end
theorem cx{P:Program}{w:World}{ops:Array Oper}{rest:List Oper}{o:Oper}{a:Act}{Q:Exit->Act->World->Prop}(pR:o.guard=none)(s x:Operand)(t:TypeId)
 (ho:o.op=.call { callee:=.builtin .append,args:=#[s,x],argTypes:=#[t,t]})
 (base:Nat) (e:TypeId) (i:TypeInfo) (z:Value) (size bytes:Nat) (ht:P.underlying t=some (.slice e)) (hi:P.info? e=some i) (hz:i.zero=some z)
 (Di:i.size=size) (xi:i.bytes=bytes) (hzs:z.cells.size=size) (dd:0<size)
 (v:Value) (n:Nat) (xs:List Value) (hs:a.eval s=v) (aG:w.ownsRow base e size v n xs)
 (ad:Addr) (m c:Nat) (news:List Value) (hx:a.eval x=.slice (some ad) m c) (hl:news.length=m*size) (yu:∀j u,news[j]?=some u->w.cell? (ad.add j)=some u) (h1:∀u∈news,u.oneCell'=true)
 (h63:n+m<=maxLen) (Aa:(n+m)*bytes<=140737488355328) (jn:base<=w.heap.size)
 (h:∀v' w',w'.ownsRow base e size v' (n+m) (xs++news)->w.grownBy w' v.ownBlock->(v'.ownBlock=v.ownBlock\/∀g,v'.ownBlock=some g->w.heap.size<=g)->wpList P ops Q rest (a.put o.dst v') w'):wpList P ops Q (o :: rest) a w:=by
 refine wpList_plain pR fun K hK=>?_;obtain⟨v',w',zc,r1,r2,r3⟩:=vf (P:=P) w base t o.type e i z size bytes ht hi hz Di xi hzs dd v n xs aG ad m c news hl yu h1 h63 Aa jn;unfold Oper.wp;simp[execOp,ho,resolve,invoke,builtin,hs,hx,zc,Result.andThen];exact hK _ _ (h v' w' r1 r2 r3)
theorem Ab{l more:List Nat}{k:Nat}(h:k<l.length):(l++more).getD k 0=l.getD k 0:=by
 simp[List.getD,List.getElem?_append_left h]
def ptrTo(aj:List Nat)(k:Nat):Value:=.pointer (some ⟨aj.getD k 0,0,none⟩)
structure jT (w:World)(F:Nat->Prop)(aj:List Nat)(p:PN)(a:Nat)(iv kv:IV):Prop where
 aD:ah w a #[.int .i64 p.kind,.slice iv.1 iv.2.1 iv.2.2,.bool p.neg,.slice kv.1 kv.2.1 kv.2.2,.int .i64 p.least,.int .i64 p.most] 229
 Rb:F a
 ins:(p.kind<=3/\∃g,iv=(some ⟨g,0,none⟩,256,256)/\F g/\ah w g (bC p.ins) 4)\/(3<p.kind/\iv=(none,0,0))
 kids:w.ownsRow 0 111 1 (fF kv) p.kids.length (p.kids.map (ptrTo aj))
 G1:∀g,(fF kv).ownBlock=some g->F g
structure RM (w:World)(b:Nat)(t:ByteArray)(s:RS)(ps:List PN)(aj:List Nat)(F:Nat->Prop):Prop where
 rr:RR w b t s
 len:aj.length=ps.length
 part:∀(i:Nat) (p:PN),ps[i]?=some p->(∀k,k∈p.kids->k<i)/\∃iv kv,jT w F aj p (aj.getD i 0) iv kv
 Ac:∀k,F k->k<w.heap.size/\k≠b
section
variable {w w':World}{b a:Nat}{t:ByteArray}{s s':RS}{ps:List PN}{aj:List Nat}{F F':Nat->Prop}{p:PN}{iv kv:IV}
theorem jT.frame(h:jT w F aj p a iv kv)(hf:∀k,F k->w'.heap[k]?=w.heap[k]?):jT w' F aj p a iv kv:=by
 refine⟨(hf a h.Rb).trans h.aD,h.Rb,?_,?_,h.G1⟩
 ·rcases h.ins with⟨h1,g,h2,h3,h4⟩|h5
  ·exact Or.inl ⟨h1,g,h2,h3,(hf g h3).trans h4⟩
  ·exact Or.inr h5
 ·refine⟨h.kids.1,?_⟩;rcases h.kids.2 with h1|⟨g,cap,cur,h1,h2,h3,r⟩
  ·exact Or.inl h1
  ·exact Or.inr ⟨g,cap,cur,h1,h2,(hf g (h.G1 g (by rw[h1];rfl))).trans h3,r⟩
theorem jT.wider(h:jT w F aj p a iv kv)(hf:∀k,F k->F' k){more:List Nat}(hk:∀k,k∈p.kids->k<aj.length):jT w F' (aj++more) p a iv kv:=by
 refine⟨h.aD,hf a h.Rb,?_,?_,fun g hg=>hf g (h.G1 g hg)⟩
 ·rcases h.ins with⟨h1,g,h2,h3,h4⟩|h5
  ·exact Or.inl ⟨h1,g,h2,hf g h3,h4⟩
  ·exact Or.inr h5
 ·have e:p.kids.map (ptrTo (aj++more))=p.kids.map (ptrTo aj):=by
   apply List.map_congr_left;intro k Gn;unfold ptrTo;rw[Ab (hk k Gn)]
  rw[e];exact h.kids
theorem RM.frame(h:RM w b t s ps aj F)(hf:∀k,F k->w'.heap[k]?=w.heap[k]?)(r:RR w' b t s')(hs:w.heap.size<=w'.heap.size):RM w' b t s' ps aj F:=
 ⟨r,h.len,fun i p hp=>⟨(h.part i p hp).1,by obtain⟨iv,kv,hk⟩:=(h.part i p hp).2;exact⟨iv,kv,hk.frame hf⟩⟩,fun k hk=>⟨Nat.lt_of_lt_of_le (h.Ac k hk).1 hs,(h.Ac k hk).2⟩⟩
theorem RM.scan(h:RM w b t s ps aj F)(r:RR w' b t s')(k:Kept [b] w w'):RM w' b t s' ps aj F:=
 h.frame (fun i hi=>k.block i (h.Ac i hi).1 (by simpa using (h.Ac i hi).2)) r k.size
theorem RM.push(h:RM w b t s ps aj F)(hF:∀k,F k->F' k)(hold:∀k,F' k->k<w.heap.size/\k≠b)(hk:∀k,k∈p.kids->k<ps.length)(hp:jT w F' aj p a iv kv):
 RM w b t s (ps++[p]) (aj++[a]) F':=by
 refine⟨h.rr,by simp[h.len],fun i q hq=>?_,hold⟩;by_cases hi:i<ps.length
 ·rw[List.getElem?_append_left hi]at hq;obtain⟨h1,iv,kv,h2⟩:=h.part i q hq;refine⟨h1,iv,kv,?_⟩;rw[Ab (by rw[h.len];exact hi)];exact h2.wider hF (fun k hk=>by have:=h1 k hk;rw[h.len];omega)
 ·have CI:i=ps.length:=by
   have:=(List.getElem?_eq_some_iff.1 hq).1;simp at this;omega
  subst CI;rw[List.getElem?_append_right (Nat.le_refl _),Nat.sub_self]at hq;simp at hq;subst hq;refine⟨hk,iv,kv,?_⟩;have e:(aj++[a]).getD ps.length 0=a:=by rw[<-h.len];simp[List.getD]
  rw[e];exact hp.wider (fun k hk=>hk) (fun k Gn=>by rw[h.len];exact hk k Gn)
end
structure fZ (w w':World)(b:Nat)(t:ByteArray)(aj:List Nat)(F:Nat->Prop)(r:Nat×RP)(pv:Value):Prop where
 mem:∃(more:List Nat) (F':Nat->Prop),RM w' b t r.2.1 r.2.2 (aj++more) F'/\(∀k,F k->F' k)/\(∀k,F' k->F k\/w.heap.size<=k)/\pv=ptrTo (aj++more) r.1
 kept:Kept [b] w w'
 idx:r.1<r.2.2.length
end Go.Proofs.YtgifhgnccmnbiabGreatDoor
namespace Go.Proofs.YtgifhgnccmnbiabGreatDoor
def de(t:ByteArray)(c:Int)(st:PS):Nat×PS:=
 if c=46 then jR 0 255 st
 else if c=94 then bL { kind:=2,size:=1} st
 else if c=36 then bL { kind:=3,size:=1} st
 else if c=92 then jR (aw t st.1).1 (aw t st.1).1 ((aw t st.1).2,st.2)
 else if c=41\/c=124\/c=42\/c=43\/c=63\/c=123 then jR c c (cN t,st.2)
 else jR c c st
def dv(t:ByteArray)(r:Nat×PS):Nat×PS:=(r.1,(if (ak t 41 r.2.1).1=true then (ak t 41 r.2.1).2 else cN t,r.2.2))
def rf(t:ByteArray):Nat->Nat->Nat->PS->Nat×PS
 | 0,_,cur,st=>(cur,st)
 | f+1,tag,cur,st=>
   if tag=0 then rf t f 4 (rf t f 1 0 st).1 (rf t f 1 0 st).2
   else if tag=1 then
    if jj t st.1=true then bL { kind:=0,size:=1} st
    else rf t f 5 (rf t f 2 0 st).1 (rf t f 2 0 st).2
   else if tag=2 then rf t f 6 (rf t f 3 0 st).1 (rf t f 3 0 st).2
   else if tag=3 then
    if (aw t st.1).1=40 then dv t (rf t f 0 0 ((aw t st.1).2,st.2))
    else if (aw t st.1).1=91 then nK t ((aw t st.1).2,st.2)
    else de t (aw t st.1).1 ((aw t st.1).2,st.2)
   else if tag=4 then
    if (ak t 124 st.1).1=true then
     rf t f 4 (bk 5 cur (rf t f 1 0 ((ak t 124 st.1).2,st.2)).1 (rf t f 1 0 ((ak t 124 st.1).2,st.2)).2).1 (bk 5 cur (rf t f 1 0 ((ak t 124 st.1).2,st.2)).1 (rf t f 1 0 ((ak t 124 st.1).2,st.2)).2).2
    else (cur,st)
   else if tag=5 then
    if jj t st.1=true then (cur,st)
    else rf t f 5 (bk 4 cur (rf t f 2 0 st).1 (rf t f 2 0 st).2).1 (bk 4 cur (rf t f 2 0 st).1 (rf t f 2 0 st).2).2
   else
    if kN t st.1=true then rf t f 6 (ch cur (aC t st.1).1 ((aC t st.1).2,st.2)).1 (ch cur (aC t st.1).1 ((aC t st.1).2,st.2)).2
    else (cur,st)
def Ev(t:ByteArray)(tag cur:Nat)(st:PS)(r:Nat×PS):Prop:=∃f0,∀f,f0<=f->rf t f tag cur st=r
theorem rh{p q:Nat->Prop}(hp:∃a,∀f,a<=f->p f)(hq:∃a,∀f,a<=f->q f):∃a,∀f,a<=f->p f/\q f:=by
 obtain⟨a,ha⟩:=hp;obtain⟨c,hc⟩:=hq;exact⟨a+c,fun f hf=>⟨ha f (by omega),hc f (by omega)⟩⟩
theorem cQ{p:Nat->Prop}(hp:∃a,∀f,a<=f->p (f+1)):∃a,∀f,a<=f->p f:=by
 obtain⟨a,ha⟩:=hp;refine⟨a+1,fun f hf=>?_⟩;obtain⟨g,rfl⟩:∃g,f=g+1:=⟨f-1,by omega⟩;exact ha g (by omega)
section
variable {t:ByteArray}{cur:Nat}{st:PS}{r r1:Nat×PS}
theorem Ev.pattern(h1:Ev t 1 0 st r1)(h2:Ev t 4 r1.1 r1.2 r):Ev t 0 0 st r:=
 cQ (by obtain⟨a,h⟩:=rh h1 h2;exact⟨a,fun f hf=>by obtain⟨x,y⟩:=h f hf;rw[rf,if_pos rfl,x,y]⟩)
theorem Ev.empty(he:jj t st.1=true):Ev t 1 0 st (bL { kind:=0,size:=1} st):=
 cQ ⟨0,fun f _=>by rw[rf,if_neg (by decide),if_pos rfl,if_pos he]⟩
theorem Ev.branch(he:jj t st.1=false)(h1:Ev t 2 0 st r1)(h2:Ev t 5 r1.1 r1.2 r):Ev t 1 0 st r:=
 cQ (by obtain⟨a,h⟩:=rh h1 h2;exact⟨a,fun f hf=>by obtain⟨x,y⟩:=h f hf;rw[rf,if_neg (by decide),if_pos rfl,if_neg (by rw[he];decide),x,y]⟩)
theorem Ev.piece(h1:Ev t 3 0 st r1)(h2:Ev t 6 r1.1 r1.2 r):Ev t 2 0 st r:=
 cQ (by obtain⟨a,h⟩:=rh h1 h2;exact⟨a,fun f hf=>by obtain⟨x,y⟩:=h f hf;rw[rf,if_neg (by decide),if_neg (by decide),if_pos rfl,x,y]⟩)
theorem Ev.group(he:(aw t st.1).1=40)(h1:Ev t 0 0 ((aw t st.1).2,st.2) r1):Ev t 3 0 st (dv t r1):=
 cQ (by obtain⟨a,h⟩:=h1;exact⟨a,fun f hf=>by rw[rf,if_neg (by decide),if_neg (by decide),if_neg (by decide),if_pos rfl,if_pos he,h f hf]⟩)
theorem Ev.list(he:(aw t st.1).1=91):Ev t 3 0 st (nK t ((aw t st.1).2,st.2)):=
 cQ ⟨0,fun f _=>by rw[rf,if_neg (by decide),if_neg (by decide),if_neg (by decide),if_pos rfl,if_neg (by rw[he];decide),if_pos he]⟩
theorem Ev.plain(h1:(aw t st.1).1≠40)(h2:(aw t st.1).1≠91):Ev t 3 0 st (de t (aw t st.1).1 ((aw t st.1).2,st.2)):=
 cQ ⟨0,fun f _=>by rw[rf,if_neg (by decide),if_neg (by decide),if_neg (by decide),if_pos rfl,if_neg h1,if_neg h2]⟩
theorem Ev.or(he:(ak t 124 st.1).1=true)(h1:Ev t 1 0 ((ak t 124 st.1).2,st.2) r1)(h2:Ev t 4 (bk 5 cur r1.1 r1.2).1 (bk 5 cur r1.1 r1.2).2 r):Ev t 4 cur st r:=
 cQ (by obtain⟨a,h⟩:=rh h1 h2;exact⟨a,fun f hf=>by
  obtain⟨x,y⟩:=h f hf;rw[rf,if_neg (by decide),if_neg (by decide),if_neg (by decide),if_neg (by decide),if_pos rfl,if_pos he,x,y]⟩)
theorem Ev.oP(he:(ak t 124 st.1).1=false):Ev t 4 cur st (cur,st):=
 cQ ⟨0,fun f _=>by rw[rf,if_neg (by decide),if_neg (by decide),if_neg (by decide),if_neg (by decide),if_pos rfl,if_neg (by rw[he];decide)]⟩
theorem Ev.and(he:jj t st.1=false)(h1:Ev t 2 0 st r1)(h2:Ev t 5 (bk 4 cur r1.1 r1.2).1 (bk 4 cur r1.1 r1.2).2 r):Ev t 5 cur st r:=
 cQ (by obtain⟨a,h⟩:=rh h1 h2;exact⟨a,fun f hf=>by
  obtain⟨x,y⟩:=h f hf;rw[rf,if_neg (by decide),if_neg (by decide),if_neg (by decide),if_neg (by decide),if_neg (by decide),if_pos rfl,if_neg (by rw[he];decide),x,y]⟩)
theorem Ev.mM(he:jj t st.1=true):Ev t 5 cur st (cur,st):=
 cQ ⟨0,fun f _=>by rw[rf,if_neg (by decide),if_neg (by decide),if_neg (by decide),if_neg (by decide),if_neg (by decide),if_pos rfl,if_pos he]⟩
theorem Ev.rep(he:kN t st.1=true)(h2:Ev t 6 (ch cur (aC t st.1).1 ((aC t st.1).2,st.2)).1 (ch cur (aC t st.1).1 ((aC t st.1).2,st.2)).2 r):Ev t 6 cur st r:=
 cQ (by obtain⟨a,h⟩:=h2;exact⟨a,fun f hf=>by
  rw[rf,if_neg (by decide),if_neg (by decide),if_neg (by decide),if_neg (by decide),if_neg (by decide),if_neg (by decide),if_pos he,h f hf]⟩)
theorem Ev.gM(he:kN t st.1=false):Ev t 6 cur st (cur,st):=
 cQ ⟨0,fun f _=>by rw[rf,if_neg (by decide),if_neg (by decide),if_neg (by decide),if_neg (by decide),if_neg (by decide),if_neg (by decide),if_neg (by rw[he];decide)]⟩
theorem Ev.one{tag:Nat}{r':Nat×PS}(h:Ev t tag cur st r)(h':Ev t tag cur st r'):r=r':=by
 obtain⟨a,ha⟩:=h;obtain⟨c,hc⟩:=h';rw[<-ha (a+c) (by omega),hc (a+c) (by omega)]
end
end Go.Proofs.YtgifhgnccmnbiabGreatDoor
namespace Go.Proofs.YtgifhgnccmnbiabGreatDoor
open Go.RowKit Go.IntWalk
section
variable {t:ByteArray}{st:RP}{r r1:Nat×RP}{cur:List Nat}
theorem db.plain(h:(cd t (bF t st.1)).1≠40):db t 3 [] st (bY t (cd t (bF t st.1)).1 ((cd t (bF t st.1)).2,st.2)):=
 cQ ⟨0,fun f _=>by rw[ot,if_neg (by decide),if_neg (by decide),if_neg (by decide),if_pos rfl,if_neg h]⟩
theorem db.group(h:(cd t (bF t st.1)).1=40)(h1:db t 0 [] ((cd t (bF t st.1)).2,st.2) r1):db t 3 [] st (cW t r1):=
 cQ (by obtain⟨a,h2⟩:=h1;exact⟨a,fun f hf=>by rw[ot,if_neg (by decide),if_neg (by decide),if_neg (by decide),if_pos rfl,if_pos h,h2 f hf]⟩)
theorem db.piece(h1:db t 3 [] st r1)(h2:db t 4 [r1.1] r1.2 r):db t 2 [] st r:=
 cQ (by obtain⟨a,h⟩:=rh h1 h2;exact⟨a,fun f hf=>by obtain⟨x,y⟩:=h f hf;rw[ot,if_neg (by decide),if_neg (by decide),if_pos rfl,x,y]⟩)
theorem db.gM{x:Nat}(h:st.1.2=true\/oq t st.1 [42,43,63,123]=false):db t 4 [x] st (x,st):=
 cQ ⟨0,fun f _=>by rw[ot,if_neg (by decide),if_neg (by decide),if_neg (by decide),if_neg (by decide),if_pos h];rfl⟩
theorem db.rep{x:Nat}(hb:st.1.2=false)(h:oq t st.1 [42,43,63,123]=true)
 (h1:db t 4 [(a8 { kind:=6,kids:=[x],least:=(fX t st.1).1.1,most:=(fX t st.1).1.2} ((fX t st.1).2,st.2)).1] (a8 { kind:=6,kids:=[x],least:=(fX t st.1).1.1,most:=(fX t st.1).1.2} ((fX t st.1).2,st.2)).2 r):db t 4 [x] st r:=
 cQ (by obtain⟨a,h2⟩:=h1;exact⟨a,fun f hf=>by rw[ot,if_neg (by decide),if_neg (by decide),if_neg (by decide),if_neg (by decide),if_neg (by rw[hb,h];decide)];exact h2 f hf⟩)
theorem db.oQ(h:iu t st.1=false):db t 1 cur st (a8 { kind:=4,kids:=cur} st):=
 cQ ⟨0,fun f _=>by rw[ot,if_neg (by decide),if_pos rfl,if_neg (by rw[h];decide)]⟩
theorem db.ri(h:iu t st.1=true)(h1:db t 2 [] st r1)(h2:db t 1 (cur++[r1.1]) r1.2 r):db t 1 cur st r:=
 cQ (by obtain⟨a,h3⟩:=rh h1 h2;exact⟨a,fun f hf=>by obtain⟨x,y⟩:=h3 f hf;rw[ot,if_neg (by decide),if_pos rfl,if_pos h,x,y]⟩)
theorem db.oR(h1:db t 1 [] st r1)(h:(ak t 124 r1.2.1).1=false\/(ak t 124 r1.2.1).2.2=true):db t 0 cur st (a8 { kind:=5,kids:=cur++[r1.1]} ((ak t 124 r1.2.1).2,r1.2.2)):=
 cQ (by obtain⟨a,h2⟩:=h1;exact⟨a,fun f hf=>by rw[ot,if_pos rfl];simp only[];rw[h2 f hf,if_pos h]⟩)
theorem db.Ad(h1:db t 1 [] st r1)(h:¬((ak t 124 r1.2.1).1=false\/(ak t 124 r1.2.1).2.2=true))(h2:db t 0 (cur++[r1.1]) ((ak t 124 r1.2.1).2,r1.2.2) r):db t 0 cur st r:=
 cQ (by obtain⟨a,h3⟩:=rh h1 h2;exact⟨a,fun f hf=>by obtain⟨x,y⟩:=h3 f hf;rw[ot,if_pos rfl];simp only[];rw[x,if_neg h,y]⟩)
end
theorem zC(b:Nat)(t:ByteArray)(s:RS)(w:World)(h:RR w b t s):
 Calls Tryz.prog 148 #[.pointer (some ⟨b,0,none⟩),.string ⟨#[42,43,63,123]⟩] w fun e w'=>e=.returned (.bool (oq t s [42,43,63,123]))/\RR w' b t s/\Kept [b] w w':=ub b t s _ w h (by decide)
theorem G3:(Tryz.prog.info? 4).map (fun i=>(i.zero,i.size,i.bytes))=some (some (.bool false),1,1):=by kernel_rfl
theorem JY:madeCells (Value.bool false).cells 256=bC (fun _=>false):=by
 apply Array.ext
 ·simp[madeCells,bC]
 ·intro i h1 h2;simp[madeCells,bC,Value.cells,Nat.mod_one]
theorem Ae(w:World):(Instr.makeSlice 40 (.int .i64 256) (.int .i64 256)).run Tryz.prog w=.ok (.slice (some ⟨w.heap.size,0,none⟩) 256 256) (w.alloc (.cells (bC (fun _=>false)) 4)):=by
 obtain⟨i0,kQ,jh,dP,dB⟩:=info_parts G3;have h:=run_make (P:=Tryz.prog) w 40 4 i0 (.bool false) Tryz.underlying40 kQ jh .i64 .i64 256 256 (by omega) (by omega) (by rw[dB];omega) (by omega);rw[dP]at h;have e:(256:Int).toNat*1=256:=rfl;rw[e,JY]at h;exact h
theorem Dj{b a g:Nat}{w w3 w4:World}(k1:Kept [b] w w3)(k2:Kept [b,a,g] w3 w4)(ha:w.heap.size<=a)(hg:w.heap.size<=g):Kept [b] w w4:=
 ⟨k2.os.trans k1.os,k2.tape.trans k1.tape,k2.output.trans k1.output,Nat.le_trans k1.size k2.size,fun k hk hs=>
  (k2.block k (Nat.lt_of_lt_of_le hk k1.size) (by simp at hs ⊢;omega)).trans (k1.block k hk hs)⟩
theorem rj{w w':World}{b a g:Nat}{t:ByteArray}{s s':RS}{ps:List PN}{aj:List Nat}{F:Nat->Prop}{p:PN}(h:RM w b t s ps aj F)(r:RR w' b t s')(k:Kept [b] w w')
 (hp:p.kids=[]/\p.kind<=3/\p.least=0/\p.most=0) (ha:w.heap.size<=a) (hg:w.heap.size<=g)
 (qU:ah w' a #[.int .i64 p.kind,.slice (some ⟨g,0,none⟩) 256 256,.bool p.neg,.slice none 0 0,.int .i64 0,.int .i64 0] 229) (Dk:ah w' g (bC p.ins) 4):
 fZ w w' b t aj F (a8 p (s',ps)) (.pointer (some ⟨a,0,none⟩)):=by
 obtain⟨e1,e2,e3,e4⟩:=hp;have hb:=h.rr.aD.lt;refine⟨⟨[a],fun k=>F k\/k=a\/k=g,RM.push (h.scan r k) (fun k hk=>Or.inl hk) (fun x hx=>?_) (fun x hx=>by rw[e1]at hx;cases hx) (iv:=(some ⟨g,0,none⟩,256,256)) (kv:=(none,0,0)) ⟨?_,Or.inr (Or.inl rfl),Or.inl ⟨e2,g,rfl,Or.inr (Or.inr rfl),Dk⟩,?_,fun x hx=>by cases hx⟩,fun k hk=>Or.inl hk,fun x hx=>?_,?_⟩,k,?_⟩
 ·rcases hx with hx|rfl|rfl
  ·exact⟨Nat.lt_of_lt_of_le (h.Ac x hx).1 k.size,(h.Ac x hx).2⟩
  ·exact⟨qU.lt,by omega⟩
  ·exact⟨Dk.lt,by omega⟩
 ·rw[e3,e4];exact qU
 ·rw[e1];exact World.ownsRow_nil _ _ _ _
 ·rcases hx with hx|rfl|rfl
  ·exact Or.inl hx
  ·exact Or.inr ha
  ·exact Or.inr hg
 ·simp[a8,ptrTo,List.getD,<-h.len]
 ·simp[a8]
def xj(t:ByteArray)(b:Nat)(s:RS)(ps:List PN)(aj:List Nat)(F:Nat->Prop)(w:World):Prop:=
 Calls Tryz.prog 185 #[.pointer (some ⟨b,0,none⟩)] w fun e w'=>∃r pv,e=.returned pv/\db t 3 [] (s,ps) r/\fZ w w' b t aj F r pv/\s.1<r.2.1.1
theorem vh(t:ByteArray)(s:RS):(bF t s).1=s.1:=by unfold bF;split <;> rfl
theorem EK{c:Int}{f:Nat->Bool}{i:Nat}(hi:(i:Int)=c)(hf:f=fun _=>false):∀j,j<256->one c j=if j=i then true else f j:=by
 intro j hj;unfold one;rw[hf];by_cases h:j=i
 ·rw[if_pos h,decide_eq_true (by omega)]
 ·rw[if_neg h,decide_eq_false (by omega)]
theorem Dl(t:ByteArray):∀(n:Nat) (s:RS) (f:Nat->Bool),s.1<=(fO t n s f).1.1
 | 0,s,f=>Nat.le_refl _
 | n+1,s,f=>by
   rw[fO];split
   ·exact Nat.le_refl _
   ·split
    ·exact Nat.le_trans GR cr
    ·exact Nat.le_trans (Nat.le_trans GR cr) (Dl t n _ _)
theorem xm{t:ByteArray}{s:RS}{f:Nat->Bool}:s.1<=(da t s f).1.1:=Dl t _ s f
theorem G4(b:Nat)(t:ByteArray)(s:RS)(ps:List PN)(aj:List Nat)(F:Nat->Prop)(w:World)(h:RM w b t s ps aj F)(hp:s.1<t.size)(hc:(cd t (bF t s)).1≠40):xj t b s ps aj F w:=by
 have ev:Hid (db t 3 [] (s,ps) _):=db.plain (st:=(s,ps)) hc;have zd:=Ae;have hb:=h.rr.aD.lt;have N2:((cd t (bF t s)).1==40)=false:=by simpa using hc
 have hcbd:=GO t (bF t s);have rp:s.1<(cd t (bF t s)).2.1:=by
  have:(cd t (bF t s)).2.1=(bF t s).1+1:=by unfold cd;rw[if_pos (by rw[vh];exact hp)]
  rw[this,vh];omega
 clear hc;unfold xj;go_enter Tryz.func185,Tryz.ntmps185
 go_wp2_with fail
 refine(zC b t s _ h.rr).mono ?_;rintro e w1 ⟨rfl,h1,k1⟩;have c1:=h1.c1;have f1:=h1.f 1;go_upto_if 9 with fail
 go_cut [] (fun wx=>RR wx b t (bF t s)/\Kept [b] w wx)
 case first=>
  go_wp2_with fail
  ·have hq:oq t s [42,43,63,123]=true:=by assumption
   have e:Hid (bF t s=fW s):=if_pos hq;go_meet;rw[e.out];exact⟨h1.mark,k1.setCell (by simp) _⟩
  ·have hq:oq t s [42,43,63,123]=false:=by assumption
   have e:Hid (bF t s=s):=if_neg (by rw[hq];decide);go_meet;rw[e.out];exact⟨h1,k1⟩
 case rest=>
  obtain⟨r2,k2⟩:=hcut;clear h1 k1 c1 f1;go_wp2_with fail
  have dd:=k2.size;have ra:∀o1 o2,RR ((wc.alloc o1).alloc o2) b t (bF t s):=fun o1 o2=>r2.kept (((Kept.refl [] wc).alloc o1).alloc o2) (by simp);have ka:∀o1 o2,Kept [b] w ((wc.alloc o1).alloc o2):=fun o1 o2=>(k2.alloc o1).alloc o2;refine(hQ b t _ _ (ra _ _)).mono ?_;rintro e w3 ⟨rfl,r3,k3⟩;have bg:ah w3 wc.heap.size (bC (fun _=>false)) 4:=ah.kept ((ah.new wc _ _).alloc _) k3 (by simp;omega);have ba:ah w3 (wc.heap.size+1) #[.int .i64 1,.slice (some ⟨wc.heap.size,0,none⟩) 256 256,.bool false,.slice none 0 0,.int .i64 0,.int .i64 0] 229:=by
   have h0:=ah.new (wc.alloc (.cells (bC (fun _=>false)) 4)) #[.int .i64 1,.slice (some ⟨wc.heap.size,0,none⟩) 256 256,.bool false,.slice none 0 0,.int .i64 0,.int .i64 0] 229;have e:(wc.alloc (.cells (bC (fun _=>false)) 4)).heap.size=wc.heap.size+1:=by simp
   rw[e]at h0;exact h0.kept k3 (by simp;omega)
  have k4:Kept [b] w w3:=(ka _ _).trans k3;clear k2 k3 ra ka r2;have pU:b<wc.heap.size:=by omega
  obtain⟨g,hg⟩:∃g,g=wc.heap.size:=⟨_,rfl⟩;rw[<-hg]at bg ba pU dd ⊢;generalize vj:(cd t (bF t s))=c at *;obtain⟨c,s2⟩:=c;simp only[]at N2 hcbd rp r3;have N3:Hid (_=_):=hg;have hccH:Hid (_=_):=vj;clear hg vj;have a0:=ba.cell 0;have a1:=ba.cell 1;have a2:=ba.cell 2;have f0:=ba.frozen 0;have f2:=ba.frozen 2;have Xh:∀n:Nat,n<256->w3.cell? ⟨g,n,none⟩=some (.bool false)/\w3.frozen? ⟨g,n,none⟩=false:=fun n hn=>⟨by rw[bg.cell,kE _ hn],bg.frozen n⟩;have Yo:∀(k:Int) (n:Nat),RR ((w3.setCell ⟨g+1,0,none⟩ (.int .i64 k)).setCell ⟨g,n,none⟩ (.bool true)) b t s2:=fun k n=>
   ⟨ah.other (ah.other r3.aD _ _ (by omega)) _ _ (by omega),r3.fits,r3.small⟩
  -- a byte's truth is laid,the kind being set or not
  have fin1:∀(n:Nat),n<256->bY t c (s2,ps)=a8 { kind:=1,ins:=one n} (s2,ps)->fZ w (w3.setCell ⟨g,n,none⟩ (.bool true)) b t aj F (bY t c (s2,ps)) (.pointer (some ⟨g+1,0,none⟩)):=by
   intro n hn e;rw[e];exact rj (g:=g) h ⟨ah.other r3.aD _ _ (by omega),r3.fits,r3.small⟩ (k4.setCell (Or.inr (by show w.heap.size<=g;omega)) _) ⟨rfl,by show(1:Int)<=3;decide,rfl,rfl⟩ (by omega) (by omega)
    (ah.other ba _ _ (by omega)) (by have:=bg.set n (.bool true);rwa [kF _ (one n) n (EK rfl rfl)]at this)
  have fin2:∀(n:Nat) (k:Int),n<256->k<=3->bY t c (s2,ps)=a8 { kind:=k,ins:=one n} (s2,ps) ->
   fZ w ((w3.setCell ⟨g+1,0,none⟩ (.int .i64 k)).setCell ⟨g,n,none⟩ (.bool true)) b t aj F (bY t c (s2,ps)) (.pointer (some ⟨g+1,0,none⟩)):=by
   intro n k hn hk e;rw[e];exact rj (g:=g) h (Yo k n) ((k4.setCell (Or.inr (by show w.heap.size<=g+1;omega)) _).setCell (Or.inr (by show w.heap.size<=g;omega)) _) ⟨rfl,hk,rfl,rfl⟩ (by omega) (by omega)
    (ah.other (ba.set 0 _) _ _ (by omega)) (by have:=(ah.other bg 0 (.int .i64 k) (show g≠g+1 by omega)).set n (.bool true);rwa [kF _ (one n) n (EK rfl rfl)]at this)
  have fin1H:Hid (∀(n:Nat),_):=fin1;have Xi:Hid (∀(n:Nat) (k:Int),_):=fin2;have JZ:Hid (∀(n:Nat),_):=Xh;clear Yo fin1 fin2 Xh;by_cases c1:c=91
  ·subst c1;have e:Hid (bY t 91 (s2,ps)=_):=show bY t 91 (s2,ps)=a8 { kind:=1,ins:=(da t (ak t 94 s2).2 (fun _=>false)).2,neg:=(ak t 94 s2).1} ((da t (ak t 94 s2).2 (fun _=>false)).1,ps) from rfl
   go_wp2_with fail
   refine(NZ b (g+1) g t s2 _ r3 ba bg (by omega) (by omega) (by omega)).mono ?_;rintro e5 w5 ⟨rfl,m5⟩;go_wp2
   go_ret;refine⟨_,_,rfl,ev.out,?_,?_⟩
   ·show fZ w w5 b t aj F (bY t 91 (s2,ps)) _;rw[e.out];exact rj (g:=g) h m5.rr (Dj k4 m5.kept (by omega) (by omega)) ⟨rfl,by show(1:Int)<=3;decide,rfl,rfl⟩ (by omega) (by omega) m5.part m5.ins
   ·show s.1<(bY t 91 (s2,ps)).2.1.1;rw[e.out];exact Nat.lt_of_lt_of_le rp (Nat.le_trans cr xm)
  by_cases c2:c=94
  ·subst c2;have m:=Xi.out 94 2 (by omega) (by omega) rfl;obtain⟨d1,d2⟩:=JZ.out 94 (by omega);have m:Hid (fZ _ _ _ _ _ _ _ _):=m;go_wp2
   go_ret;exact⟨_,_,rfl,ev.out,m.out,rp⟩
  by_cases c3:c=36
  ·subst c3;have m:=Xi.out 36 3 (by omega) (by omega) rfl;obtain⟨d1,d2⟩:=JZ.out 36 (by omega);have m:Hid (fZ _ _ _ _ _ _ _ _):=m;go_wp2
   go_ret;exact⟨_,_,rfl,ev.out,m.out,rp⟩
  by_cases c4:c=46
  ·subst c4;have m:fZ w (w3.setCell ⟨g+1,2,none⟩ (.bool true)) b t aj F (bY t 46 (s2,ps)) (.pointer (some ⟨g+1,0,none⟩)):=by
    show fZ w _ b t aj F (a8 { kind:=1,neg:=true} (s2,ps)) _;exact rj (g:=g) h ⟨ah.other r3.aD _ _ (by omega),r3.fits,r3.small⟩ (k4.setCell (Or.inr (by show w.heap.size<=g+1;omega)) _) ⟨rfl,by show(1:Int)<=3;decide,rfl,rfl⟩ (by omega) (by omega)
     (ba.set 2 _) (ah.other bg _ _ (by omega))
   have m:Hid (fZ _ _ _ _ _ _ _ _):=m;go_wp2
   go_ret;exact⟨_,_,rfl,ev.out,m.out,rp⟩
  by_cases c5:c=92
  ·subst c5;have bd2:=GO t s2;go_wp2_with fail
   refine(hQ b t _ _ r3).mono ?_;generalize hdd:(cd t s2)=d at *;obtain⟨d,s4⟩:=d;simp only[]at bd2;obtain⟨n,rfl⟩:=Int.eq_ofNat_of_zero_le bd2.1;rintro e6 w5 ⟨rfl,r5,k5⟩;have hn:n<256:=by omega
   have bg5:=bg.kept k5 (by simp;omega);have ba5:=ba.kept k5 (by simp;omega);have d1:w5.cell? ⟨g,n,none⟩=some (.bool false):=by rw[bg5.cell,kE _ hn]
   have d2:=bg5.frozen n;have d3:=ba5.cell 1;have jK:=yo (t:=t) (s:=s2);rw[hdd]at jK;have m:fZ w (w5.setCell ⟨g,n,none⟩ (.bool true)) b t aj F (a8 { kind:=1,ins:=one n} (s4,ps)) (.pointer (some ⟨g+1,0,none⟩)):=
    rj (g:=g) h ⟨ah.other r5.aD _ _ (by omega),r5.fits,r5.small⟩ ((k4.trans k5).setCell (Or.inr (by show w.heap.size<=g;omega)) _) ⟨rfl,by show(1:Int)<=3;decide,rfl,rfl⟩ (by omega) (by omega)
     (ah.other ba5 _ _ (by omega)) (by have:=bg5.set n (.bool true);rwa [kF _ (one n) n (EK rfl rfl)]at this)
   have e:Hid (bY t 92 (s2,ps)=a8 { kind:=1,ins:=one n} (s4,ps)):=by
    show a8 { kind:=1,ins:=one (cd t s2).1} ((cd t s2).2,ps)=_;rw[hdd]
   have m:Hid (fZ _ _ _ _ _ _ _ _):=m;clear hdd;go_wp2
   go_ret;refine⟨_,_,rfl,ev.out,?_,?_⟩
   ·show fZ w _ b t aj F (bY t 92 (s2,ps)) _;rw[e.out];exact m.out
   ·show s.1<(bY t 92 (s2,ps)).2.1.1;rw[e.out];exact Nat.lt_of_lt_of_le rp jK
  ·have e1:=beq_eq_false_iff_ne.2 c1;have e2:=beq_eq_false_iff_ne.2 c2;have e3:=beq_eq_false_iff_ne.2 c3;have e4:=beq_eq_false_iff_ne.2 c4;have e5:=beq_eq_false_iff_ne.2 c5;obtain⟨n,rfl⟩:=Int.eq_ofNat_of_zero_le hcbd.1;have m:=fin1H.out n (by omega) (by unfold bY;rw[if_neg c1,if_neg c2,if_neg c3,if_neg c4,if_neg c5]);obtain⟨d1,d2⟩:=JZ.out n (by omega);have m:Hid (fZ _ _ _ _ _ _ _ _):=m;have hn:n<256:=by omega
   have hpr:s.1<(bY t (n:Int) (s2,ps)).2.1.1:=by unfold bY;rw[if_neg c1,if_neg c2,if_neg c3,if_neg c4,if_neg c5];exact rp
   clear c1 c2 c3 c4 c5;go_wp2
   go_ret;exact⟨_,_,rfl,ev.out,m.out,hpr⟩
def N4(t:ByteArray)(m:Nat):Prop:=
 ∀(b:Nat) (s:RS) (ps:List PN) (aj:List Nat) (F:Nat->Prop) (w:World),t.size-s.1<m->RM w b t s ps aj F ->
  Calls Tryz.prog 102 #[.pointer (some ⟨b,0,none⟩)] w fun e w'=>∃r pv,e=.returned pv/\db t 0 [] (s,ps) r/\fZ w w' b t aj F r pv/\s.1<=r.2.1.1
theorem fZ.scan{w w' w2:World}{b:Nat}{t:ByteArray}{aj:List Nat}{F:Nat->Prop}{r:Nat×RP}{pv:Value}{s':RS}(h:fZ w w' b t aj F r pv)(r2:RR w2 b t s')(k:Kept [b] w' w2):
 fZ w w2 b t aj F (r.1,(s',r.2.2)) pv:=by
 obtain⟨⟨more,F',h1,h2,h3,h4⟩,h5,h6⟩:=h;exact⟨⟨more,F',h1.scan r2 k,h2,h3,h4⟩,h5.trans k,h6⟩
theorem fZ.from{w0 w w':World}{b:Nat}{t:ByteArray}{aj:List Nat}{F:Nat->Prop}{r:Nat×RP}{pv:Value}(h:fZ w w' b t aj F r pv)(k:Kept [b] w0 w):fZ w0 w' b t aj F r pv:=by
 obtain⟨⟨more,F',h1,h2,h3,h4⟩,h5,h6⟩:=h;exact⟨⟨more,F',h1,h2,fun x hx=>(h3 x hx).imp id (fun hx=>Nat.le_trans k.size hx),h4⟩,k.trans h5,h6⟩
theorem fZ.rr{w w':World}{b:Nat}{t:ByteArray}{aj:List Nat}{F:Nat->Prop}{r:Nat×RP}{pv:Value}(h:fZ w w' b t aj F r pv):RR w' b t r.2.1:=by
 obtain⟨⟨more,F',h1,_⟩,_⟩:=h;exact h1.rr
theorem fZ.ptr{w w':World}{b:Nat}{t:ByteArray}{aj:List Nat}{F:Nat->Prop}{r:Nat×RP}{pv:Value}(h:fZ w w' b t aj F r pv):∃x,pv=.pointer (some ⟨x,0,none⟩):=by
 obtain⟨⟨more,F',_,_,_,h4⟩,_⟩:=h;exact⟨_,h4⟩
theorem G5(m:Nat)(b:Nat)(t:ByteArray)(s:RS)(ps:List PN)(aj:List Nat)(F:Nat->Prop)(w:World)(H:N4 t m)(h:RM w b t s ps aj F)(hp:s.1<t.size)(Af:t.size-s.1<=m)(hc:(cd t (bF t s)).1=40):xj t b s ps aj F w:=by
 have ev:Hid (∀r1,db t 0 [] ((cd t (bF t s)).2,ps) r1->db t 3 [] (s,ps) (cW t r1)):=fun r1 h1=>db.group (st:=(s,ps)) hc h1;have zd:=Ae;have hb:=h.rr.aD.lt;have rp:s.1<(cd t (bF t s)).2.1:=by
  have:(cd t (bF t s)).2.1=(bF t s).1+1:=by unfold cd;rw[if_pos (by rw[vh];exact hp)]
  rw[this,vh];omega
 unfold xj;go_enter Tryz.func185,Tryz.ntmps185
 go_wp2_with fail
 refine(zC b t s _ h.rr).mono ?_;rintro e w1 ⟨rfl,h1,k1⟩;have c1:=h1.c1;have f1:=h1.f 1;go_upto_if 9 with fail
 go_cut [] (fun wx=>RR wx b t (bF t s)/\Kept [b] w wx)
 case first=>
  go_wp2_with fail
  ·have hq:oq t s [42,43,63,123]=true:=by assumption
   have e:Hid (bF t s=fW s):=if_pos hq;go_meet;rw[e.out];exact⟨h1.mark,k1.setCell (by simp) _⟩
  ·have hq:oq t s [42,43,63,123]=false:=by assumption
   have e:Hid (bF t s=s):=if_neg (by rw[hq];decide);go_meet;rw[e.out];exact⟨h1,k1⟩
 case rest=>
  obtain⟨r2,k2⟩:=hcut;clear h1 k1 c1 f1;go_wp2_with fail
  have dd:=k2.size;have ra:∀o1 o2,RR ((wc.alloc o1).alloc o2) b t (bF t s):=fun o1 o2=>r2.kept (((Kept.refl [] wc).alloc o1).alloc o2) (by simp);have ka:∀o1 o2,Kept [b] w ((wc.alloc o1).alloc o2):=fun o1 o2=>(k2.alloc o1).alloc o2;refine(hQ b t _ _ (ra _ _)).mono ?_;rintro e w3 ⟨rfl,r3,k3⟩;have bg:ah w3 wc.heap.size (bC (fun _=>false)) 4:=ah.kept ((ah.new wc _ _).alloc _) k3 (by simp;omega);have ba:ah w3 (wc.heap.size+1) #[.int .i64 1,.slice (some ⟨wc.heap.size,0,none⟩) 256 256,.bool false,.slice none 0 0,.int .i64 0,.int .i64 0] 229:=by
   have h0:=ah.new (wc.alloc (.cells (bC (fun _=>false)) 4)) #[.int .i64 1,.slice (some ⟨wc.heap.size,0,none⟩) 256 256,.bool false,.slice none 0 0,.int .i64 0,.int .i64 0] 229;have e:(wc.alloc (.cells (bC (fun _=>false)) 4)).heap.size=wc.heap.size+1:=by simp
   rw[e]at h0;exact h0.kept k3 (by simp;omega)
  have k4:Kept [b] w w3:=(ka _ _).trans k3;clear k2 k3 ra ka r2;have pU:b<wc.heap.size:=by omega
  obtain⟨g,hg⟩:∃g,g=wc.heap.size:=⟨_,rfl⟩;rw[<-hg]at bg ba pU dd ⊢;have QI:=h.scan r3 k4;generalize vj:(cd t (bF t s))=c at *;obtain⟨c,s2⟩:=c;simp only[]at hc rp r3 QI;subst hc;have hH:Hid (Calls _ _ _ _ _):=H b s2 ps aj F w3 (by omega) QI;clear vj hg bg ba;go_wp2_with fail
  refine hH.out.mono ?_;clear hH;rintro e4 w4 ⟨r,pv,rfl,ev4,m4,jK⟩;obtain⟨x,rfl⟩:=m4.ptr;have rr4:=m4.rr;cases ix:(ak t 41 r.2.1).1 with
  | true=>
    have e:Hid (cW t r=(r.1,((ak t 41 r.2.1).2,r.2.2))):=by show cW t r=_;unfold cW;rw[if_pos ix]
    go_wp2_with fail
    refine(gj b 41 t _ _ rr4 (by omega) (by omega)).mono ?_;rintro e5 w5 ⟨rfl,r5,k5⟩;have m5:Hid (fZ _ _ _ _ _ _ _ _):=(m4.scan r5 k5).from k4
    go_wp2
    go_ret;refine⟨cW t r,_,rfl,ev.out r ev4,by rw[e.out];exact m5.out,?_⟩;rw[e.out];exact Nat.lt_of_lt_of_le rp (Nat.le_trans jK cr)
  | false=>
    have e:Hid (cW t r=(r.1,(fW (ak t 41 r.2.1).2,r.2.2))):=by show cW t r=_;unfold cW;rw[if_neg (by rw[ix];decide)]
    go_wp2_with fail
    refine(gj b 41 t _ _ rr4 (by omega) (by omega)).mono ?_;rintro e5 w5 ⟨rfl,r5,k5⟩;have c5:=r5.c1;have f5:=r5.f 1;have m5:Hid (fZ _ _ _ _ _ _ _ _):=(m4.scan (s':=fW (ak t 41 r.2.1).2) (w2:=w5.setCell ⟨b,1,none⟩ (.bool true)) r5.mark (k5.setCell (by simp) _)).from k4
    go_wp2
    go_ret;refine⟨cW t r,_,rfl,ev.out r ev4,by rw[e.out];exact m5.out,?_⟩;rw[e.out];exact Nat.lt_of_lt_of_le rp (Nat.le_trans jK cr)
theorem N5(m:Nat)(b:Nat)(t:ByteArray)(s:RS)(ps:List PN)(aj:List Nat)(F:Nat->Prop)(w:World)(H:N4 t m)(h:RM w b t s ps aj F)(hp:s.1<t.size)(Af:t.size-s.1<=m):xj t b s ps aj F w:=by
 by_cases hc:(cd t (bF t s)).1=40
 ·exact G5 m b t s ps aj F w H h hp Af hc
 ·exact G4 b t s ps aj F w h hp hc
def Ag(w:World)(b:Nat):Nat:=match w.cell? ⟨b,0,none⟩ with|some (.string x)=>x.size|_=>0
theorem oS{w:World}{b:Nat}{t:ByteArray}{s:RS}(h:RR w b t s):Ag w b=t.size-s.1:=by
 unfold Ag;rw[h.c0];simp[dc]
theorem N6{w w2 w':World}{b Y:Nat}{t:ByteArray}{aj:List Nat}{F:Nat->Prop}{r:Nat×RP}{pv:Value}{s':RS}{p:PN}{kv:IV}
 (h:fZ w w2 b t aj F r pv) (r':RR w' b t s') (k:Kept [b] w2 w') (hY:w2.heap.size<=Y)
 (oT:3<p.kind) (iT:∀x,x∈p.kids->x<r.2.2.length)
 (hp:ah w' Y #[.int .i64 p.kind,.slice none 0 0,.bool p.neg,.slice kv.1 kv.2.1 kv.2.2,.int .i64 p.least,.int .i64 p.most] 229)
 (b8:∀more F',RM w2 b t r.2.1 r.2.2 (aj++more) F'->pv=ptrTo (aj++more) r.1->w'.ownsRow 0 111 1 (fF kv) p.kids.length (p.kids.map (ptrTo (aj++more))))
 (VD:∀g,(fF kv).ownBlock=some g->w2.heap.size<=g/\g<w'.heap.size):
 fZ w w' b t aj F (a8 p (s',r.2.2)) (.pointer (some ⟨Y,0,none⟩)):=by
 obtain⟨⟨more,F',h1,h2,h3,h4⟩,h5,h6⟩:=h;have hb:=h1.rr.aD.lt;have dd:=h5.size;refine⟨⟨more++[Y],fun x=>F' x\/x=Y\/(fF kv).ownBlock=some x,?_,fun x hx=>Or.inl (h2 x hx),fun x hx=>?_,?_⟩,h5.trans k,by simp[a8]⟩
 ·rw[<-List.append_assoc];refine RM.push (h1.scan r' k) (fun x hx=>Or.inl hx) (fun x hx=>?_) iT (iv:=(none,0,0)) (kv:=kv) ⟨hp,Or.inr (Or.inl rfl),Or.inr ⟨oT,rfl⟩,b8 more F' h1 h4,fun g hg=>Or.inr (Or.inr hg)⟩;rcases hx with hx|rfl|hx
  ·exact⟨Nat.lt_of_lt_of_le (h1.Ac x hx).1 k.size,(h1.Ac x hx).2⟩
  ·exact⟨hp.lt,by omega⟩
  ·have:=VD x hx;exact⟨this.2,by omega⟩
 ·rcases hx with hx|rfl|hx
  ·exact h3 x hx
  ·exact Or.inr (by omega)
  ·have:=VD x hx;exact Or.inr (by omega)
 ·have e:(aj++(more++[Y])).getD r.2.2.length 0=Y:=by
   rw[<-List.append_assoc,<-h1.len];simp[List.getD]
  simp only[a8,ptrTo,e]
theorem row_one(w:World)(x:Value)(e:TypeId)(k:Nat)(hk:k=w.heap.size):(w.alloc (.cells #[x] e)).ownsRow 0 e 1 (.slice (some ⟨k,0,none⟩) 1 1) 1 [x]:=by
 subst hk;exact⟨rfl,.inr ⟨w.heap.size,1,#[x],rfl,Nat.zero_le _,heap_alloc_new w _,Nat.le_refl _,by unfold maxLen;omega,rfl,rfl⟩⟩
theorem Rc{S:List Nat}{w w':World}{e:TypeId}{z n g c:Nat}{xs:List Value}(h:w.ownsRow 0 e z (.slice (some ⟨g,0,none⟩) n c) n xs)(k:Kept S w w')(hg:¬g∈S):w'.ownsRow 0 e z (.slice (some ⟨g,0,none⟩) n c) n xs:=by
 refine⟨h.1,?_⟩;rcases h.2 with⟨h1,_⟩|⟨g',cap,cur,h1,h2,h3,r⟩
 ·cases h1
 ·simp only[Value.slice.injEq,Option.some.injEq,Addr.mk.injEq,and_true]at h1;obtain⟨e1,_,e2⟩:=h1;subst e1 e2;exact Or.inr ⟨g,c,cur,rfl,h2,(k.block g (Array.getElem?_eq_some_iff.1 h3).1 hg).trans h3,r⟩
theorem Yp{t:ByteArray}{s:RS}{l:List UInt8}(h:oq t s l=true):s.1<t.size:=by
 by_cases hp:s.1<t.size
 ·exact hp
 ·rw[GS hp]at h;cases h
theorem VE{t:ByteArray}{s:RS}(h:oq t s [42,43,63,123]=true):pk t s.1=42\/pk t s.1=43\/pk t s.1=63\/pk t s.1=123:=by
 simp only[oq,List.any_cons,List.any_nil,Bool.or_false,Bool.or_eq_true,beq_iff_eq]at h;exact h
theorem Mz{t:ByteArray}{s:RS}:s.1<=(nD t s).2.1:=by
 have h1:=yo (t:=t) (s:=s);have h2:=cr (t:=t) (c:=44) (s:=(cd t s).2);have h3:=cr (t:=t) (c:=125) (s:=(ak t 44 (cd t s).2).2);have h4:=yo (t:=t) (s:=(ak t 125 (ak t 44 (cd t s).2).2).2);have h5:=cr (t:=t) (c:=125) (s:=(cd t (ak t 125 (ak t 44 (cd t s).2).2).2).2);have hm:s.1<=(bu t s).2.2.1:=by
  unfold bu;simp only[];split
  ·simp only[];omega
  ·split
   ·simp only[];split
    ·simp only[fW];omega
    ·omega
   ·simp only[];omega
 unfold nD;simp only[];split
 ·exact hm
 ·exact hm
theorem J0(m:Nat)(b:Nat)(t:ByteArray)(s:RS)(ps:List PN)(aj:List Nat)(F:Nat->Prop)(w:World)(H:N4 t m)(h:RM w b t s ps aj F)(hp:s.1<t.size)(Af:t.size-s.1<=m):
 Calls Tryz.prog 149 #[.pointer (some ⟨b,0,none⟩)] w fun e w'=>∃r pv,e=.returned pv/\db t 2 [] (s,ps) r/\fZ w w' b t aj F r pv/\s.1<r.2.1.1:=by
 have ha:=N5 m b t s ps aj F w H h hp Af;unfold xj at ha;have haH:Hid (Calls _ _ _ _ _):=ha;clear ha H h;go_enter Tryz.func149,Tryz.ntmps149
 go_wp2_with fail
 refine haH.out.mono ?_;clear haH;rintro e w1 ⟨r1,pv1,rfl,ev1,m1,yw⟩;obtain⟨x1,rfl⟩:=m1.ptr;go_wp2_with fail
 go_loopw [3] (fun x wr=>∃(r:Nat×RP) (y:Nat),x=.pointer (some ⟨y,0,none⟩)/\fZ w wr b t aj F r (.pointer (some ⟨y,0,none⟩))/\(∀r',db t 4 [r.1] r.2 r'->db t 2 [] (s,ps) r')/\s.1<r.2.1.1) (fun _ wr=>Ag wr b)
 case atStart=>exact⟨r1,x1,rfl,m1,fun r' e=>db.piece ev1 e,yw⟩
 case round=>
  obtain⟨r,y,rfl,m,ev,hpr⟩:=hrel;have QJ:Hid (∀r',_):=ev;clear ev;have c1:=m.rr.c1;have VF:Hid (_=_):=oS m.rr;cases dO:r.2.1.2 with
  | true=>
    have e:Hid (db t 2 [] (s,ps) r):=QJ.out r (db.gM (Or.inl dO));rw[dO]at c1;go_wp2
    go_ret;exact⟨r,_,rfl,e.out,m,hpr⟩
  | false=>
    rw[dO]at c1;cases hq:oq t r.2.1 [42,43,63,123] with
    | false=>
      have e:Hid (db t 2 [] (s,ps) r):=QJ.out r (db.gM (Or.inr hq));go_wp2_with fail
      refine(zC b t _ _ m.rr).mono ?_;rintro e2 w2 ⟨rfl,r2,k2⟩;have m2:Hid (fZ _ _ _ _ _ _ _ _):=m.scan r2 k2;go_wp2
      go_ret;exact⟨r,_,rfl,e.out,m2.out,hpr⟩
    | true=>
      have bO:=Yp hq;have sI:=VE hq;have uP:cd t r.2.1=(pk t r.2.1.1,(r.2.1.1+1,r.2.1.2)):=if_pos bO;have ev:Hid (∀r',_):=fun r' h'=>QJ.out r' (db.rep (r:=r') dO hq h');clear QJ;go_wp2_with fail
      refine(zC b t _ _ m.rr).mono ?_;rintro e2 w2 ⟨rfl,r2,k2⟩;go_wp2_with fail
      refine(hQ b t _ _ r2).mono ?_;rintro e3 w3 ⟨rfl,r3,k3⟩;have m3:=m.scan r3 (k2.trans k3);clear m r2 k2 k3;have pS:=r3.aD.lt;have b8:(w3.alloc (.cells #[.pointer (some ⟨y,0,none⟩)] 111)).ownsRow 0 111 1 (.slice (some ⟨w3.heap.size,0,none⟩) 1 1) 1 [.pointer (some ⟨y,0,none⟩)]:=row_one _ _ _ _ rfl;have dZ:Hid (∀o,((w3.alloc (.cells #[.pointer (some ⟨y,0,none⟩)] 111)).alloc o).ownsRow 0 111 1 (.slice (some ⟨w3.heap.size,0,none⟩) 1 1) 1 [.pointer (some ⟨y,0,none⟩)]):=fun o=>b8.alloc o;clear b8;have VG:∀l m:Int,ah ((w3.alloc (.cells #[.pointer (some ⟨y,0,none⟩)] 111)).alloc (.cells #[.int .i64 6,.slice none 0 0,.bool false,.slice (some ⟨w3.heap.size,0,none⟩) 1 1,.int .i64 l,.int .i64 m] 229)) (w3.heap.size+1) #[.int .i64 6,.slice none 0 0,.bool false,.slice (some ⟨w3.heap.size,0,none⟩) 1 1,.int .i64 l,.int .i64 m] 229:=by
       intro l m;have h0:=ah.new (w3.alloc (.cells #[.pointer (some ⟨y,0,none⟩)] 111)) #[.int .i64 6,.slice none 0 0,.bool false,.slice (some ⟨w3.heap.size,0,none⟩) 1 1,.int .i64 l,.int .i64 m] 229;rwa [show(w3.alloc (.cells #[.pointer (some ⟨y,0,none⟩)] 111)).heap.size=w3.heap.size+1 by simp]at h0
      have fG:∀o1 o2,Kept [b] w3 ((w3.alloc o1).alloc o2):=fun o1 o2=>((Kept.refl _ _).alloc o1).alloc o2;have Yo:∀o1 o2,RR ((w3.alloc o1).alloc o2) b t (cd t r.2.1).2:=fun o1 o2=>r3.kept (((Kept.refl [] _).alloc o1).alloc o2) (by simp)
      -- the new part,however cM bounds have come about
      have fin:∀(w5:World) (s':RS) (least most:Int),RR w5 b t s'->Kept [b] w3 w5->ah w5 (w3.heap.size+1) #[.int .i64 6,.slice none 0 0,.bool false,.slice (some ⟨w3.heap.size,0,none⟩) 1 1,.int .i64 least,.int .i64 most] 229 ->
       w5.ownsRow 0 111 1 (.slice (some ⟨w3.heap.size,0,none⟩) 1 1) 1 [.pointer (some ⟨y,0,none⟩)]->fX t r.2.1=((least,most),s')->r.2.1.1<s'.1 ->
       (∃(r':Nat×RP) (y':Nat),Value.pointer (some ⟨w3.heap.size+1,0,none⟩)=.pointer (some ⟨y',0,none⟩)/\fZ w w5 b t aj F r' (.pointer (some ⟨y',0,none⟩))/\(∀r'',db t 4 [r'.1] r'.2 r''->db t 2 [] (s,ps) r'')/\s.1<r'.2.1.1)/\Ag w5 b<Ag wr b:=by
       intro w5 s' least most hr5 mN eY hrow5 oU Xj;have hlt5:=eY.lt;refine⟨⟨a8 { kind:=6,kids:=[r.1],least:=(fX t r.2.1).1.1,most:=(fX t r.2.1).1.2} ((fX t r.2.1).2,r.2.2),w3.heap.size+1,rfl,?_,ev.out,?_⟩,?_⟩
       ·rw[oU];exact N6 (r:=(r.1,((cd t r.2.1).2,r.2.2))) (kv:=(some ⟨w3.heap.size,0,none⟩,1,1)) (p:={kind:=6,kids:=[r.1],least:=least,most:=most}) m3 hr5 mN (by omega) (by show(3:Int)<6;decide) (fun x hx=>by simp at hx;subst hx;exact m3.idx) eY
         (fun more F' _ J'=>by show w5.ownsRow 0 _ 1 _ 1 [ptrTo (aj++more) r.1];rw[<-J'];exact hrow5) (fun g hg=>by simp[fF,Value.ownBlock]at hg;subst hg;exact⟨Nat.le_refl _,by omega⟩)
       ·rw[oU];simp only[a8];omega
       ·rw[oS hr5,VF.out];have:=hr5.fits;simp only[Fits]at this;omega
      have VH:Hid (∀(w5:World) (s':RS) (least most:Int),_):=fin;clear fin ev m3 VF;rcases sI with sI|sI|sI|sI
      ·have hv:(cd t r.2.1).1=42:=by rw[uP];exact sI
       have oU:fX t r.2.1=((0,-1),(cd t r.2.1).2):=by unfold fX;rw[hv];rfl
       have Xj:r.2.1.1<(cd t r.2.1).2.1:=by rw[uP];exact Nat.lt_succ_self _
       have fH:Hid _:=VH.out _ _ _ _ (Yo _ _) (fG _ _) (VG _ _) (dZ.out _) oU Xj;clear oU uP sI;go_wp2
       exact fH.out
      ·have hv:(cd t r.2.1).1=43:=by rw[uP];exact sI
       have oU:fX t r.2.1=((1,-1),(cd t r.2.1).2):=by unfold fX;rw[hv];rfl
       have Xj:r.2.1.1<(cd t r.2.1).2.1:=by rw[uP];exact Nat.lt_succ_self _
       have fH:Hid _:=VH.out _ _ _ _ (Yo _ _) (fG _ _) (VG _ _) (dZ.out _) oU Xj;clear oU uP sI;go_wp2
       exact fH.out
      ·have hv:(cd t r.2.1).1=63:=by rw[uP];exact sI
       have oU:fX t r.2.1=((0,1),(cd t r.2.1).2):=by unfold fX;rw[hv];rfl
       have Xj:r.2.1.1<(cd t r.2.1).2.1:=by rw[uP];exact Nat.lt_succ_self _
       have fH:Hid _:=VH.out _ _ _ _ (Yo _ _) (fG _ _) (VG _ _) (dZ.out _) oU Xj;clear oU uP sI;go_wp2
       exact fH.out
      ·have hv:(cd t r.2.1).1=123:=by rw[uP];exact sI
       have oU:fX t r.2.1=nD t (cd t r.2.1).2:=by unfold fX;rw[hv];rfl
       have Xj:r.2.1.1<(nD t (cd t r.2.1).2).2.1:=Nat.lt_of_lt_of_le (by rw[uP];exact Nat.lt_succ_self _) Mz;have hrepH:Hid (_=_):=oU;clear oU uP sI;go_wp2_with fail
       refine(GY b (w3.heap.size+1) t _ _ _ (Yo _ _) (VG _ _) (by omega)).mono ?_;rintro e5 w5 ⟨rfl,m5⟩;have fH:Hid _:=VH.out _ _ _ _ m5.rr (Dj (fG _ _) (m5.kept.mono (S':=[b,w3.heap.size+1,w3.heap.size+1]) (by simp)) (by omega) (by omega)) m5.part (Rc (dZ.out _) m5.kept (by simp;omega)) hrepH.out Xj;go_wp2
       exact fH.out
end Go.Proofs.YtgifhgnccmnbiabGreatDoor
