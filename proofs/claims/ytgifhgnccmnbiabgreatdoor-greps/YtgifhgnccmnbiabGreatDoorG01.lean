/- Part of the proof. -/
import Derived.Test.YtgifhgnccmnbiabGreatDoorRows
import Derived.WalkKit
import Derived.WalkSpells
import Derived.WalkLawsBesides
import Derived.BigQuiet
import Derived.Deep.QuietTactic
import Derived.Deep.RegionWith
import Derived.Deep.DeepCutAuto
import Derived.Deep.Cut
import Derived.Deep.CutRange
set_option linter.unusedVariables false
set_option linter.unusedSimpArgs false
set_option maxHeartbeats 4000000
set_option maxRecDepth 100000
namespace Go.Proofs.YtgifhgnccmnbiabGreatDoor
open Go.RowKit
structure Kept (S:List Nat)(w w':World):Prop where
 os:w'.os=w.os
 tape:w'.tape=w.tape
 output:w'.output=w.output
 size:w.heap.size<=w'.heap.size
 block:∀k,k<w.heap.size->¬k∈S->w'.heap[k]?=w.heap[k]?
theorem Kept.refl(S:List Nat)(w:World):Kept S w w:=⟨rfl,rfl,rfl,Nat.le_refl _,fun _ _ _=>rfl⟩
theorem Kept.trans{S:List Nat}{a b c:World}(h:Kept S a b)(k:Kept S b c):Kept S a c:=
 ⟨k.os.trans h.os,k.tape.trans h.tape,k.output.trans h.output,Nat.le_trans h.size k.size,fun i hi hs=>(k.block i (Nat.lt_of_lt_of_le hi h.size) hs).trans (h.block i hi hs)⟩
theorem Kept.drew{S:List Nat}{a w:World}(h:Kept S a w):Kept S a w.drew:=⟨h.os,h.tape,h.output,h.size,h.block⟩
theorem Kept.drewN{S:List Nat}{a w:World}(h:Kept S a w)(n:Nat):Kept S a (w.drewN n):=⟨h.os,h.tape,h.output,h.size,h.block⟩
theorem Kept.alloc{S:List Nat}{a w:World}(h:Kept S a w)(o:Obj):Kept S a (w.alloc o):=
 h.trans ⟨rfl,rfl,rfl,by simp,fun k hk _=>Below.heap_alloc _ _ _ hk⟩
theorem Kept.setCell{S:List Nat}{a w:World}(h:Kept S a w){p:Addr}(hp:p.block∈S\/a.heap.size<=p.block)(u:Value):Kept S a (w.setCell p u):=
 ⟨h.os,h.tape,h.output,by simpa [World.setCell] using h.size,fun k hk hs=>by
  rw[Below.heap_setCell _ _ _ _ (by rintro rfl;rcases hp with hp|hp;exact hs hp;omega)];exact h.block k hk hs⟩
theorem Kept.mono{S S':List Nat}{w w':World}(h:Kept S w w')(hs:∀k,k∈S->k∈S'):Kept S' w w':=
 ⟨h.os,h.tape,h.output,h.size,fun k hk Gn=>h.block k hk (fun e=>Gn (hs k e))⟩
theorem Kept.below{S:List Nat}{w w':World}{B:Nat}(h:Kept S w w')(hB:B<=w.heap.size)(hs:∀k,k∈S->B<=k):Below B w w':=
 ⟨h.os,h.tape,h.output,h.size,fun k hk=>h.block k (by omega) (fun e=>by have:=hs k e;omega)⟩
def ah(w:World)(b:Nat)(cs:Array Value)(e:TypeId):Prop:=w.heap[b]?=some (.cells cs e (0,0))
theorem ah.lt{w:World}{b:Nat}{cs:Array Value}{e:TypeId}(h:ah w b cs e):b<w.heap.size:=(Array.getElem?_eq_some_iff.1 h).1
theorem ah.cell{w:World}{b:Nat}{cs:Array Value}{e:TypeId}(h:ah w b cs e)(j:Nat):w.cell? ⟨b,j,none⟩=cs[j]?:=by
 unfold ah at h;simp[World.cell?,h]
theorem ah.frozen{w:World}{b:Nat}{cs:Array Value}{e:TypeId}(h:ah w b cs e)(j:Nat):w.frozen? ⟨b,j,none⟩=false:=by
 unfold ah at h;simp[World.frozen?,h]
theorem ah.kept{S:List Nat}{w w':World}{b:Nat}{cs:Array Value}{e:TypeId}(h:ah w b cs e)(k:Kept S w w')(hb:¬b∈S):ah w' b cs e:=
 (k.block b h.lt hb).trans h
theorem ah.drew{w:World}{b:Nat}{cs:Array Value}{e:TypeId}(h:ah w b cs e):ah w.drew b cs e:=h
theorem ah.alloc{w:World}{b:Nat}{cs:Array Value}{e:TypeId}(h:ah w b cs e)(o:Obj):ah (w.alloc o) b cs e:=
 (Below.heap_alloc _ _ _ h.lt).trans h
theorem ah.new(w:World)(cs:Array Value)(e:TypeId):ah (w.alloc (.cells cs e)) w.heap.size cs e:=heap_alloc_new w _
theorem ah.set{w:World}{b:Nat}{cs:Array Value}{e:TypeId}(h:ah w b cs e)(j:Nat)(v:Value):ah (w.setCell ⟨b,j,none⟩ v) b (cs.setIfInBounds j v) e:=by
 unfold ah at *;simp[World.setCell,Array.getElem?_modify,h]
theorem ah.other{w:World}{b b':Nat}{cs:Array Value}{e:TypeId}(h:ah w b cs e)(j:Nat)(v:Value)(hn:b≠b'):ah (w.setCell ⟨b',j,none⟩ v) b cs e:=
 (Below.heap_setCell _ _ _ _ hn).trans h
theorem bQ{k:IntKind}{a b:Int}(h:a=b):Ending.returned (.int k a)=.returned (.int k b):=by rw[h]
theorem oN{a b:Bool}(h:a=b):Ending.returned (.bool a)=.returned (.bool b):=by rw[h]
end Go.Proofs.YtgifhgnccmnbiabGreatDoor
namespace Go.Proofs.YtgifhgnccmnbiabGreatDoor
def pk(t:ByteArray)(p:Nat):Int:=if h:p<t.size then (t[p].toNat:Int) else -1
theorem uY{t:ByteArray}{p:Nat}(h:p<t.size):pk t p=(t[p].toNat:Int):=dif_pos h
theorem mG{t:ByteArray}{p:Nat}(h:¬p<t.size):pk t p = -1:=dif_neg h
theorem pk_bd(t:ByteArray)(p:Nat):-1<=pk t p/\pk t p<=255:=by
 by_cases h:p<t.size
 ·rw[uY h];have:=t[p].toNat_lt;omega
 ·rw[mG h];omega
theorem kB{t:ByteArray}{p:Nat}:pk t p = -1↔¬p<t.size:=by
 constructor
 ·intro h hl;rw[uY hl]at h;omega
 ·exact mG
theorem kC{t:ByteArray}{p:Nat}(h:0<=pk t p):p<t.size:=by
 by_cases hl:p<t.size
 ·exact hl
 ·rw[mG hl]at h;omega
abbrev RS:=Nat×Bool
def cN(t:ByteArray):RS:=(t.size,true)
def aw(t:ByteArray)(s:RS):Int×RS:=if pk t s.1 = -1 then (0,cN t) else (pk t s.1,(s.1+1,s.2))
def ak(t:ByteArray)(c:Int)(s:RS):Bool×RS:=if pk t s.1=c then (true,(s.1+1,s.2)) else (false,s)
def jj(t:ByteArray)(s:RS):Bool:=pk t s.1==-1 || pk t s.1==124 || pk t s.1==41
def kN(t:ByteArray)(s:RS):Bool:=pk t s.1==42 || pk t s.1==43 || pk t s.1==63 || pk t s.1==123
def lL(t:ByteArray)(s:RS):Bool:=pk t s.1 != -1&&pk t s.1 != 93
def oo(t:ByteArray)(s:RS):Bool:=pk t s.1==45&&pk t (s.1+1) != -1&&pk t (s.1+1) != 93
def dC(t:ByteArray)(s:RS):Int×RS:=if (aw t s).1=92 then aw t (aw t s).2 else aw t s
def fV(t:ByteArray)(s:RS):Int×RS:=
 if oo t (dC t s).2=true then dC t ((dC t s).2.1+1,(dC t s).2.2) else dC t s
def dn(t:ByteArray)(s:RS):(Int×Int)×RS:=
 (((dC t s).1,(fV t s).1),if (fV t s).1<(dC t s).1 then cN t else (fV t s).2)
def eg(t:ByteArray)(s:RS):Int×RS:=
 if (aw t s).1<48\/57<(aw t s).1 then (0,cN t) else ((aw t s).1-48,(aw t s).2)
def JS(t:ByteArray)(s:RS):Int×RS:=if pk t s.1=125 then (-1,s) else eg t s
def bJ(t:ByteArray)(s:RS):Int×RS:=
 if (ak t 44 (eg t s).2).1=true then JS t (ak t 44 (eg t s).2).2 else ((eg t s).1,(ak t 44 (eg t s).2).2)
def bH(t:ByteArray)(s:RS):(Int×Int)×RS:=
 if (ak t 125 (bJ t s).2).1=false\/((bJ t s).1≠-1/\(bJ t s).1<(eg t s).1) then ((0,0),cN t)
 else (((eg t s).1,(bJ t s).1),(ak t 125 (bJ t s).2).2)
def aC(t:ByteArray)(s:RS):(Int×Int)×RS:=
 if (aw t s).1=42 then ((0,-1),(aw t s).2)
 else if (aw t s).1=43 then ((1,-1),(aw t s).2)
 else if (aw t s).1=63 then ((0,1),(aw t s).2)
 else bH t (aw t s).2
def Fits(t:ByteArray)(s:RS):Prop:=s.1<=t.size
theorem jQ(t:ByteArray):Fits t (cN t):=Nat.le_refl _
theorem bU{t:ByteArray}{s:RS}(_h:Fits t s):Fits t (aw t s).2:=by
 unfold aw;split
 ·exact jQ t
 ·rename_i hn;rw[kB]at hn;simp only[Fits];omega
theorem bh{t:ByteArray}{s:RS}{c:Int}(hc:0<=c)(h:Fits t s):Fits t (ak t c s).2:=by
 unfold ak;split
 ·rename_i hn;have:=kC (t:=t) (p:=s.1) (by omega);simp only[Fits];omega
 ·exact h
theorem GK{t:ByteArray}{s:RS}(h:Fits t s):Fits t (dC t s).2:=by
 unfold dC;split
 ·exact bU (bU h)
 ·exact bU h
theorem zX{t:ByteArray}{s:RS}(h:oo t s=true):s.1<t.size:=by
 simp only[oo,Bool.and_eq_true,beq_iff_eq]at h;exact kC (by omega)
theorem NU{t:ByteArray}{s:RS}(h:Fits t s):Fits t (fV t s).2:=by
 unfold fV;split
 ·rename_i hs;exact GK (zX hs)
 ·exact GK h
theorem xd{t:ByteArray}{s:RS}(h:Fits t s):Fits t (dn t s).2:=by
 unfold dn;simp only[];split
 ·exact jQ t
 ·exact NU h
theorem uZ{t:ByteArray}{s:RS}(h:Fits t s):Fits t (eg t s).2:=by
 unfold eg;split
 ·exact jQ t
 ·exact bU h
theorem Vx{t:ByteArray}{s:RS}(h:Fits t s):Fits t (JS t s).2:=by
 unfold JS;split
 ·exact h
 ·exact uZ h
theorem NW{t:ByteArray}{s:RS}(h:Fits t s):Fits t (bJ t s).2:=by
 unfold bJ;split
 ·exact Vx (bh (by omega) (uZ h))
 ·exact bh (by omega) (uZ h)
theorem GN{t:ByteArray}{s:RS}(h:Fits t s):Fits t (bH t s).2:=by
 unfold bH;split
 ·exact jQ t
 ·exact bh (by omega) (NW h)
theorem kO{t:ByteArray}{s:RS}(h:Fits t s):Fits t (aC t s).2:=by
 unfold aC;repeat' split
 all_goals first | exact bU h | exact GN (bU h)
theorem Vy(t:ByteArray)(s:RS):0<=(aw t s).1/\(aw t s).1<=255:=by
 have:=pk_bd t s.1;unfold aw;split <;> simp only[] <;> omega
theorem EG(t:ByteArray)(s:RS):0<=(eg t s).1/\(eg t s).1<=9:=by
 unfold eg;split
 ·simp
 ·rename_i h;simp only[];omega
theorem up_bd(t:ByteArray)(s:RS):-1<=(JS t s).1/\(JS t s).1<=9:=by
 have:=EG t s;unfold JS;split
 ·simp
 ·omega
theorem Mw(t:ByteArray)(s:RS):-1<=(bJ t s).1/\(bJ t s).1<=9:=by
 have h1:=EG t s;unfold bJ;split
 ·exact up_bd _ _
 ·simp only[];omega
theorem sB(t:ByteArray)(s:RS):0<=(aC t s).1.1/\(aC t s).1.1<=9/\-1<=(aC t s).1.2/\(aC t s).1.2<=9:=by
 have h1:=EG t (aw t s).2;have h2:=Mw t (aw t s).2;unfold aC;repeat' split
 all_goals try simp
 unfold bH;split
 ·simp
 ·simp only[];omega
structure AN where
 kind:Int
 cM:List (Int×Int):=[]
 neg:Bool:=false
 left:Int:=0
 right:Int:=0
 least:Int:=0
 most:Int:=0
 size:Int
def gL(n:AN):AN:={n with size:=if 61<n.size then 61 else n.size}
abbrev PS:=RS×List AN
def au(ns:List AN)(i:Nat):Int:=((ns[i]?).map AN.size).getD 0
def bL(n:AN)(st:PS):Nat×PS:=(st.2.length,(st.1,st.2++[gL n]))
def bk(kind:Int)(l r:Nat)(st:PS):Nat×PS:=bL { kind:=kind,left:=l,right:=r,size:=au st.2 l+au st.2 r} st
def aY(least most:Int):Int:=if (if most = -1 then least else most)<1 then 1 else (if most = -1 then least else most)
def ch(p:Nat)(lm:Int×Int)(st:PS):Nat×PS:=
 bL { kind:=6,left:=p,least:=lm.1,most:=lm.2,size:=au st.2 p*aY lm.1 lm.2} st
def jR(lo hi:Int)(st:PS):Nat×PS:=bL { kind:=1,cM:=[(lo,hi)],size:=1} st
def Dc(ns:List AN):Prop:=∀n,n∈ns->0<=n.size/\n.size<=61
theorem sC{ns:List AN}(h:Dc ns)(i:Nat):0<=au ns i/\au ns i<=61:=by
 unfold au;cases hi:ns[i]? with
 | none=>simp
 | some n=>simpa using h n (List.mem_of_getElem? hi)
theorem NX{n:AN}{st:PS}(h:Dc st.2)(hn:0<=n.size):Dc (bL n st).2.2:=by
 intro m hm;simp only[bL,List.mem_append,List.mem_singleton]at hm;rcases hm with hm|rfl
 ·exact h m hm
 ·simp only[gL];split <;> omega
theorem kD{t:ByteArray}{s:RS}(h:Fits t s):s.1<=(aw t s).2.1:=by
 unfold aw;split
 ·exact h
 ·exact Nat.le_succ _
theorem nH{t:ByteArray}{s:RS}(h:s.1<t.size):s.1<(aw t s).2.1:=by
 unfold aw;split
 ·exact h
 ·exact Nat.lt_succ_self _
theorem cr{t:ByteArray}{s:RS}{c:Int}:s.1<=(ak t c s).2.1:=by
 unfold ak;split
 ·exact Nat.le_succ _
 ·exact Nat.le_refl _
theorem nI{t:ByteArray}{s:RS}{c:Int}(h:(ak t c s).1=true):s.1<(ak t c s).2.1:=by
 unfold ak at *;split
 ·exact Nat.lt_succ_self _
 ·rename_i hc;rw[if_neg hc]at h;cases h
theorem Yh{t:ByteArray}{s:RS}(h:Fits t s):s.1<=(dC t s).2.1:=by
 unfold dC;split
 ·exact Nat.le_trans (kD h) (kD (bU h))
 ·exact kD h
theorem Yi{t:ByteArray}{s:RS}(h:s.1<t.size):s.1<(dC t s).2.1:=by
 have hf:Fits t s:=Nat.le_of_lt h;unfold dC;split
 ·exact Nat.lt_of_lt_of_le (nH h) (kD (bU hf))
 ·exact nH h
theorem Vz{t:ByteArray}{s:RS}(h:s.1<t.size):s.1<(fV t s).2.1:=by
 have h1:=Yi h;unfold fV;split
 ·rename_i hq
  have:=Yh (t:=t) (s:=((dC t s).2.1+1,(dC t s).2.2)) (zX hq);simp only[]at this;omega
 ·exact h1
theorem sD{t:ByteArray}{s:RS}(h:s.1<t.size):s.1<(dn t s).2.1:=by
 unfold dn;simp only[];split
 ·exact h
 ·exact Vz h
theorem mH{t:ByteArray}{s:RS}(h:lL t s=true):s.1<t.size:=by
 simp only[lL,Bool.and_eq_true,bne_iff_ne]at h;have:=h.1;rw[Ne,kB]at this;omega
theorem Q5{t:ByteArray}{s:RS}(h:Fits t s):s.1<=(eg t s).2.1:=by
 unfold eg;split
 ·exact h
 ·exact kD h
theorem Xf{t:ByteArray}{s:RS}(h:Fits t s):s.1<=(JS t s).2.1:=by
 unfold JS;split
 ·exact Nat.le_refl _
 ·exact Q5 h
theorem VA{t:ByteArray}{s:RS}(h:Fits t s):s.1<=(bJ t s).2.1:=by
 have h1:=Q5 h;have h2:=cr (t:=t) (c:=44) (s:=(eg t s).2);unfold bJ;split
 ·exact Nat.le_trans h1 (Nat.le_trans h2 (Xf (bh (by omega) (uZ h))))
 ·exact Nat.le_trans h1 h2
theorem NY{t:ByteArray}{s:RS}(h:Fits t s):s.1<=(bH t s).2.1:=by
 unfold bH;split
 ·exact h
 ·exact Nat.le_trans (VA h) cr
theorem sE{t:ByteArray}{s:RS}(h:s.1<t.size):s.1<(aC t s).2.1:=by
 have h1:=nH h;have h2:=NY (t:=t) (s:=(aw t s).2) (bU (Nat.le_of_lt h));unfold aC;repeat' split
 all_goals first | exact h1 | exact Nat.lt_of_lt_of_le h1 h2
theorem lQ{t:ByteArray}{s:RS}(h:kN t s=true):s.1<t.size:=by
 refine kC ?_;simp only[kN,Bool.or_eq_true,beq_iff_eq]at h;omega
theorem nJ{t:ByteArray}{s:RS}(h:jj t s=false):s.1<t.size:=by
 simp only[jj,Bool.or_eq_false_iff,beq_eq_false_iff_ne]at h;have:=h.1.1;rw[Ne,kB]at this;omega
def gy(t:ByteArray):Nat->RS->List (Int×Int)->List (Int×Int)×RS
 | 0,s,acc=>(acc,s)
 | f+1,s,acc=>if lL t s=true then gy t f (dn t s).2 (acc++[(dn t s).1]) else (acc,s)
theorem yn(t:ByteArray):∀(f g:Nat) (s:RS) (acc:List (Int×Int)),t.size-s.1<=f->t.size-s.1<=g->gy t f s acc=gy t g s acc
 | 0,0,_,_,_,_=>rfl
 | 0,g+1,s,acc,h,_=>by
   rw[gy,gy,if_neg];intro hq;have:=mH hq;omega
 | f+1,0,s,acc,_,h=>by
   rw[gy,gy,if_neg];intro hq;have:=mH hq;omega
 | f+1,g+1,s,acc,h1,h2=>by
   rw[gy,gy];split
   ·rename_i hq
    have:=sD (mH hq);have:=mH hq;exact yn t f g _ _ (by omega) (by omega)
   ·rfl
def fe(t:ByteArray)(s:RS)(acc:List (Int×Int)):List (Int×Int)×RS:=gy t (t.size-s.1) s acc
theorem xe{t:ByteArray}{s:RS}{acc:List (Int×Int)}(h:lL t s=true):fe t s acc=fe t (dn t s).2 (acc++[(dn t s).1]):=by
 have h1:=mH h;have h2:=sD h1;unfold fe;obtain⟨f,hf⟩:∃f,t.size-s.1=f+1:=⟨t.size-s.1-1,by omega⟩;rw[hf,gy,if_pos h];exact yn t _ _ _ _ (by omega) (Nat.le_refl _)
theorem mI{t:ByteArray}{s:RS}{acc:List (Int×Int)}(h:lL t s=false):fe t s acc=(acc,s):=by
 unfold fe;cases t.size-s.1 with
 | zero=>rfl
 | succ f=>rw[gy,if_neg (by rw[h];decide)]
theorem Dd(t:ByteArray):∀(f:Nat) (s:RS) (acc:List (Int×Int)),s.1<=(gy t f s acc).2.1
 | 0,s,_=>Nat.le_refl _
 | f+1,s,acc=>by
   rw[gy];split
   ·rename_i hq;exact Nat.le_trans (Nat.le_of_lt (sD (mH hq))) (Dd t f _ _)
   ·exact Nat.le_refl _
theorem De{t:ByteArray}{s:RS}{acc:List (Int×Int)}(h:Fits t s):s.1<=(fe t s acc).2.1:=Dd t _ s acc
def nK(t:ByteArray)(st:PS):Nat×PS:=
 let a:=ak t 94 st.1
 let i:=fe t a.2 []
 let c:=ak t 93 i.2
 bL { kind:=1,cM:=i.1,neg:=a.1,size:=1} (if c.1=false\/i.1.length=0 then cN t else c.2,st.2)
def cd(t:ByteArray)(s:RS):Int×RS:=if s.1<t.size then (pk t s.1,(s.1+1,s.2)) else (0,(s.1,true))
def oq(t:ByteArray)(s:RS)(l:List UInt8):Bool:=l.any (fun c=>pk t s.1==(c.toNat:Int))
def fW(s:RS):RS:=(s.1,true)
theorem yo{t:ByteArray}{s:RS}:s.1<=(cd t s).2.1:=by
 unfold cd;split
 ·exact Nat.le_succ _
 ·exact Nat.le_refl _
theorem pT{t:ByteArray}{s:RS}(h:Fits t s):Fits t (cd t s).2:=by
 unfold cd;split
 ·rename_i h2;exact h2
 ·exact h
theorem GO(t:ByteArray)(s:RS):0<=(cd t s).1/\(cd t s).1<=255:=by
 unfold cd;split
 ·rename_i h;rw[uY h];have:=t[s.1].toNat_lt;simp only[];omega
 ·simp
def cp(t:ByteArray)(s:RS):Int×RS:=cd t (ak t 92 (if oq t s [93]=true then fW s else s)).2
theorem Df{t:ByteArray}{s:RS}(h:Fits t s):Fits t (cp t s).2:=by
 unfold cp;refine pT (bh (by omega) ?_);split <;> exact h
theorem EH(t:ByteArray)(s:RS):0<=(cp t s).1/\(cp t s).1<=255:=GO _ _
theorem EI{t:ByteArray}{s:RS}:s.1<=(cp t s).2.1:=by
 unfold cp;refine Nat.le_trans ?_ (Nat.le_trans cr yo);split <;> exact Nat.le_refl _
theorem VB{t:ByteArray}{s:RS}:s.1<(cp t s).2.1\/(cp t s).2.2=true:=by
 unfold cp;generalize hx:(if oq t s [93]=true then fW s else s)=x;have QG:x.1=s.1:=by rw[<-hx];split <;> rfl
 generalize hy:(ak t 92 x).2=y;have h1:x.1<=y.1:=by rw[<-hy];exact cr
 unfold cd;split
 ·left;simp only[];omega
 ·right;rfl
theorem xg{t:ByteArray}{s:RS}(h:s.2=true):(cd t s).2.2=true:=by unfold cd;split <;> first | exact h | rfl
theorem bR{t:ByteArray}{c:Int}{s:RS}(h:s.2=true):(ak t c s).2.2=true:=by unfold ak;split <;> exact h
theorem Q6{t:ByteArray}{s:RS}(h:s.2=true):(cp t s).2.2=true:=by
 unfold cp;refine xg (bR ?_);split
 ·rfl
 ·exact h
def oJ(t:ByteArray)(s:RS):Int×RS:=if oo t (cp t s).2=true then cp t (cd t (cp t s).2).2 else cp t s
def oO(f:Nat->Bool)(lo hi:Int):Nat->Bool:=fun i=>f i || decide (lo<=(i:Int)/\(i:Int)<=hi)
def bS(t:ByteArray)(s:RS)(f:Nat->Bool):RS×(Nat->Bool):=
 (if (oJ t s).1<(cp t s).1 then fW (oJ t s).2 else (oJ t s).2,oO f (cp t s).1 (oJ t s).1)
theorem GQ{t:ByteArray}{s:RS}(h:Fits t s):Fits t (oJ t s).2:=by
 have h1:=Df h;unfold oJ;split
 ·exact Df (pT h1)
 ·exact h1
theorem Yj(t:ByteArray)(s:RS):0<=(oJ t s).1/\(oJ t s).1<=255:=by
 unfold oJ;split
 ·exact EH _ _
 ·exact EH _ _
theorem JT{t:ByteArray}{s:RS}:(cp t s).2.1<=(oJ t s).2.1:=by
 unfold oJ;split
 ·exact Nat.le_trans yo EI
 ·exact Nat.le_refl _
theorem EJ{t:ByteArray}{s:RS}(h:(cp t s).2.2=true):(oJ t s).2.2=true:=by
 unfold oJ;split
 ·exact Q6 (xg h)
 ·exact h
theorem iM{t:ByteArray}{s:RS}{f:Nat->Bool}(h:Fits t s):Fits t (bS t s f).1:=by
 unfold bS;simp only[];split
 ·exact GQ h
 ·exact GQ h
theorem GR{t:ByteArray}{s:RS}{f:Nat->Bool}:s.1<=(bS t s f).1.1:=by
 unfold bS;simp only[];split
 ·exact Nat.le_trans EI JT
 ·exact Nat.le_trans EI JT
theorem Q7{t:ByteArray}{s:RS}{f:Nat->Bool}:s.1<(bS t s f).1.1\/(bS t s f).1.2=true:=by
 have h0:=VB (t:=t) (s:=s);have h2:=JT (t:=t) (s:=s);unfold bS;simp only[];split
 ·right;rfl
 ·rcases h0 with h0|h0
  ·left;omega
  ·right;exact EJ h0
def fO(t:ByteArray):Nat->RS->(Nat->Bool)->RS×(Nat->Bool)
 | 0,s,f=>(s,f)
 | n+1,s,f=>
   if s.2=true then (s,f)
   else if (ak t 93 (bS t s f).1).1=true then ((ak t 93 (bS t s f).1).2,(bS t s f).2)
   else fO t n (ak t 93 (bS t s f).1).2 (bS t s f).2
def lM(t:ByteArray)(s:RS):Nat:=if s.2=true then 0 else t.size-s.1+1
theorem ua{t:ByteArray}{s:RS}{f:Nat->Bool}(hf:Fits t s)(hb:s.2=false):lM t (ak t 93 (bS t s f).1).2<lM t s:=by
 have h1:=Q7 (t:=t) (s:=s) (f:=f);have h2:=cr (t:=t) (c:=93) (s:=(bS t s f).1);have h3:=iM (f:=f) hf;have h4:=bh (c:=93) (by omega) h3;simp only[Fits]at h3 h4 hf;have e:lM t s=t.size-s.1+1:=by unfold lM;rw[if_neg (by rw[hb];decide)]
 rw[e];unfold lM;rcases h1 with h1|h1
 ·split <;> omega
 ·rw[if_pos (bR h1)];omega
theorem yp(t:ByteArray):∀(m n:Nat) (s:RS) (f:Nat->Bool),Fits t s->lM t s<=m->lM t s<=n->fO t m s f=fO t n s f
 | 0,0,_,_,_,_,_=>rfl
 | 0,n+1,s,f,hf,h,_=>by
   rw[fO,fO,if_pos];cases hb:s.2 with
   | true=>rfl
   | false=>unfold lM at h;rw[if_neg (by rw[hb];decide)]at h;omega
 | m+1,0,s,f,hf,_,h=>by
   rw[fO,fO,if_pos];cases hb:s.2 with
   | true=>rfl
   | false=>unfold lM at h;rw[if_neg (by rw[hb];decide)]at h;omega
 | m+1,n+1,s,f,hf,h1,h2=>by
   rw[fO,fO];split
   ·rfl
   ·rename_i hb
    have hb:s.2=false:=by simpa using hb
    have:=ua (f:=f) hf hb;split
    ·rfl
    ·exact yp t m n _ _ (bh (by omega) (iM hf)) (by omega) (by omega)
def da(t:ByteArray)(s:RS)(f:Nat->Bool):RS×(Nat->Bool):=fO t (lM t s) s f
theorem mJ{t:ByteArray}{s:RS}{f:Nat->Bool}(h:s.2=true):da t s f=(s,f):=by
 unfold da lM;rw[if_pos h,fO]
theorem jS{t:ByteArray}{s:RS}{f:Nat->Bool}(h:s.2=false)(hc:(ak t 93 (bS t s f).1).1=true):da t s f=((ak t 93 (bS t s f).1).2,(bS t s f).2):=by
 unfold da lM;rw[if_neg (by rw[h];decide),fO,if_neg (by rw[h];decide),if_pos hc]
theorem ml{t:ByteArray}{s:RS}{f:Nat->Bool}(hf:Fits t s)(h:s.2=false)(hc:(ak t 93 (bS t s f).1).1=false):
 da t s f=da t (ak t 93 (bS t s f).1).2 (bS t s f).2:=by
 have hd:=ua (f:=f) hf h;unfold da;obtain⟨n,hn⟩:∃n,lM t s=n+1:=⟨lM t s-1,by omega⟩;rw[hn,fO,if_neg (by rw[h];decide),if_neg (by rw[hc];decide)];exact yp t _ _ _ _ (bh (by omega) (iM hf)) (by omega) (Nat.le_refl _)
structure PN where
 kind:Int
 ins:Nat->Bool:=fun _=>false
 neg:Bool:=false
 kids:List Nat:=[]
 least:Int:=0
 most:Int:=0
abbrev RP:=RS×List PN
def a8(p:PN)(st:RP):Nat×RP:=(st.2.length,(st.1,st.2++[p]))
def bu(t:ByteArray)(s:RS):Int×(Bool×RS):=
 let m:=cd t s
 let c:=ak t 44 m.2
 let d:=ak t 125 c.2
 if c.1=true/\d.1=true then (-1,d)
 else if c.1=true then
  let n:=cd t d.2
  let e:=ak t 125 n.2
  (n.1-48,(e.1,if n.1<48\/57<n.1\/n.1-48<m.1-48 then fW e.2 else e.2))
 else (m.1-48,d)
def nD(t:ByteArray)(s:RS):(Int×Int)×RS:=
 (((cd t s).1-48,(bu t s).1),if (cd t s).1<48\/57<(cd t s).1\/(bu t s).2.1=false then fW (bu t s).2.2 else (bu t s).2.2)
def fX(t:ByteArray)(s:RS):(Int×Int)×RS:=
 if (cd t s).1=43 then ((1,-1),(cd t s).2)
 else if (cd t s).1=63 then ((0,1),(cd t s).2)
 else if (cd t s).1=123 then nD t (cd t s).2
 else ((0,-1),(cd t s).2)
def one(c:Int):Nat->Bool:=fun i=>decide ((i:Int)=c)
def bY(t:ByteArray)(c:Int)(st:RP):Nat×RP:=
 if c=91 then a8 { kind:=1,ins:=(da t (ak t 94 st.1).2 (fun _=>false)).2,neg:=(ak t 94 st.1).1} ((da t (ak t 94 st.1).2 (fun _=>false)).1,st.2)
 else if c=94 then a8 { kind:=2,ins:=one 94} st
 else if c=36 then a8 { kind:=3,ins:=one 36} st
 else if c=46 then a8 { kind:=1,neg:=true} st
 else if c=92 then a8 { kind:=1,ins:=one (cd t st.1).1} ((cd t st.1).2,st.2)
 else a8 { kind:=1,ins:=one c} st
def bF(t:ByteArray)(s:RS):RS:=if oq t s [42,43,63,123]=true then fW s else s
def cW(t:ByteArray)(r:Nat×RP):Nat×RP:=(r.1,(if (ak t 41 r.2.1).1=true then (ak t 41 r.2.1).2 else fW (ak t 41 r.2.1).2,r.2.2))
def iu(t:ByteArray)(s:RS):Bool:=!oq t s [124,41]&&decide (s.1<t.size)&&!s.2
def ot(t:ByteArray):Nat->Nat->List Nat->RP->Nat×RP
 | 0,_,_,st=>(0,st)
 | f+1,tag,cur,st=>
   if tag=0 then
    let b:=ot t f 1 [] st
    let m:=ak t 124 b.2.1
    if m.1=false\/m.2.2=true then a8 { kind:=5,kids:=cur++[b.1]} (m.2,b.2.2)
    else ot t f 0 (cur++[b.1]) (m.2,b.2.2)
   else if tag=1 then
    if iu t st.1=true then ot t f 1 (cur++[(ot t f 2 [] st).1]) (ot t f 2 [] st).2
    else a8 { kind:=4,kids:=cur} st
   else if tag=2 then ot t f 4 [(ot t f 3 [] st).1] (ot t f 3 [] st).2
   else if tag=3 then
    if (cd t (bF t st.1)).1=40 then cW t (ot t f 0 [] ((cd t (bF t st.1)).2,st.2))
    else bY t (cd t (bF t st.1)).1 ((cd t (bF t st.1)).2,st.2)
   else
    if st.1.2=true\/oq t st.1 [42,43,63,123]=false then (cur.headD 0,st)
    else
     let y:=a8 { kind:=6,kids:=cur,least:=(fX t st.1).1.1,most:=(fX t st.1).1.2} ((fX t st.1).2,st.2)
     ot t f 4 [y.1] y.2
def db(t:ByteArray)(tag:Nat)(cur:List Nat)(st:RP)(r:Nat×RP):Prop:=∃f0,∀f,f0<=f->ot t f tag cur st=r
end Go.Proofs.YtgifhgnccmnbiabGreatDoor
namespace Go.Proofs.YtgifhgnccmnbiabGreatDoor
open Go.RowKit Go.IntWalk
def uO(t:ByteArray)(p:Nat):ByteArray:=t.extract p t.size
theorem dc{t:ByteArray}{p:Nat}:(uO t p).size=t.size-p:=by simp[uO,ByteArray.size_extract]
theorem sF{t:ByteArray}{p k:Nat}(h:p+k<t.size)(h':k<(uO t p).size):(uO t p)[k]=t[p+k]:=by
 simp only[uO];rw[ByteArray.getElem_extract]
theorem Mx{t:ByteArray}{p:Nat}(h:p<=t.size):(uO t p).extract 1 (uO t p).size=uO t (p+1):=by
 rw[dc];unfold uO;rw[ByteArray.extract_extract];congr 1
 omega
structure RR (w:World)(b:Nat)(t:ByteArray)(s:RS):Prop where
 aD:ah w b #[.string (uO t s.1),.bool s.2] 178
 fits:Fits t s
 small:t.size<=40
section
variable {w w':World}{b:Nat}{t:ByteArray}{s:RS}
theorem RR.c0(h:RR w b t s):w.cell? ⟨b,0,none⟩=some (.string (uO t s.1)):=by rw[ah.cell h.aD];rfl
theorem RR.c1(h:RR w b t s):w.cell? ⟨b,1,none⟩=some (.bool s.2):=by rw[ah.cell h.aD];rfl
theorem RR.f(h:RR w b t s)(j:Nat):w.frozen? ⟨b,j,none⟩=false:=ah.frozen h.aD j
theorem RR.on(h:RR w b t s)(hp:s.1<t.size):RR (w.setCell ⟨b,0,none⟩ (.string (uO t (s.1+1)))) b t (s.1+1,s.2):=⟨ah.set h.aD 0 _,hp,h.small⟩
theorem RR.mark(h:RR w b t s):RR (w.setCell ⟨b,1,none⟩ (.bool true)) b t (s.1,true):=⟨ah.set h.aD 1 _,h.fits,h.small⟩
theorem RR.kept{S:List Nat}(h:RR w b t s)(k:Kept S w w')(hb:¬b∈S):RR w' b t s:=⟨ah.kept h.aD k hb,h.fits,h.small⟩
end
theorem hQ(b:Nat)(t:ByteArray)(s:RS)(w:World)(h:RR w b t s):
 Calls Tryz.prog 186 #[.pointer (some ⟨b,0,none⟩)] w fun e w'=>e=.returned (.int .u8 (cd t s).1)/\RR w' b t (cd t s).2/\Kept [b] w w':=by
 have h0:=h.c0;have f0:=h.f 0;have h1:=h.c1;have f1:=h.f 1;by_cases hp:s.1<t.size
 ·have e:cd t s=(pk t s.1,(s.1+1,s.2)):=if_pos hp;have hz:(((uO t s.1).size:Int)==0)=false:=by rw[dc];simp;omega
  have hl:0<(uO t s.1).size:=by rw[dc];omega
  have hg:=sF (t:=t) (p:=s.1) (k:=0) (by omega) hl;have hx:Hid (_=_):=Mx (t:=t) (p:=s.1) (by omega);have iw:=h.on hp;rw[e];clear e;go_enter Tryz.func186,Tryz.ntmps186
  go_wp2
  rw[hx.out];go_ret;exact⟨by rw[uY hp];rfl,iw,(Kept.refl _ _).setCell (by simp) _⟩
 ·have e:cd t s=(0,(s.1,true)):=if_neg hp;have hz:(((uO t s.1).size:Int)==0)=true:=by rw[dc];simp;omega
  have iw:=h.mark;rw[e];clear e;go_enter Tryz.func186,Tryz.ntmps186
  go_wp2
  go_ret;exact⟨rfl,iw,(Kept.refl _ _).setCell (by simp) _⟩
theorem zB{t:ByteArray}{p:Nat}(h:p<t.size)(c:Int):((t[p].toNat:Int)==c)=(pk t p==c):=by rw[uY h]
theorem gj(b:Nat)(c:Int)(t:ByteArray)(s:RS)(w:World)(h:RR w b t s)(hc:0<=c)(hc':c<=255):
 Calls Tryz.prog 150 #[.pointer (some ⟨b,0,none⟩),.int .u8 c] w fun e w'=>e=.returned (.bool (ak t c s).1)/\RR w' b t (ak t c s).2/\Kept [b] w w':=by
 have h0:=h.c0;have f0:=h.f 0;by_cases hn:pk t s.1=c
 ·have hp:s.1<t.size:=kC (by omega);have e:ak t c s=(true,(s.1+1,s.2)):=if_pos hn;have hl:0<(uO t s.1).size:=by rw[dc];omega
  have hg:=sF (t:=t) (p:=s.1) (k:=0) (by omega) hl;have hb:((t[s.1].toNat:Int)==c)=true:=by rw[zB hp,hn];simp
  have hx:Hid (_=_):=Mx (t:=t) (p:=s.1) (by omega);have iw:=h.on hp;rw[e];clear e hn;go_enter Tryz.func150,Tryz.ntmps150
  go_wp2
  rw[hx.out];go_ret;exact⟨rfl,iw,(Kept.refl _ _).setCell (by simp) _⟩
 have e:ak t c s=(false,s):=if_neg hn;rw[e];clear e;by_cases hp:s.1<t.size
 ·have hl:0<(uO t s.1).size:=by rw[dc];omega
  have hg:=sF (t:=t) (p:=s.1) (k:=0) (by omega) hl;have hb:((t[s.1].toNat:Int)==c)=false:=by rw[zB hp];simpa using hn
  clear hn;go_enter Tryz.func150,Tryz.ntmps150
  go_wp2
  go_ret;exact⟨rfl,h,Kept.refl _ _⟩
 ·have hl:¬ 0<((uO t s.1).size:Int):=by rw[dc];omega
  clear hn;go_enter Tryz.func150,Tryz.ntmps150
  go_wp2
  go_ret;exact⟨rfl,h,Kept.refl _ _⟩
theorem Q8{t:ByteArray}{s:RS}{o:ByteArray}{k:Nat}(h:k<o.size):oq t s (o.data.toList.take (k+1))=(oq t s (o.data.toList.take k) || (pk t s.1==(o[k].toNat:Int))):=by
 rw[List.take_succ_eq_append_getElem (by simpa using h)];unfold oq;rw[List.any_append];simp;rfl
theorem VC{t:ByteArray}{s:RS}{o:ByteArray}{k:Nat}(h:k<o.size)(hp:(pk t s.1==(o[k].toNat:Int))=true):oq t s o.data.toList=true:=by
 unfold oq;rw[List.any_eq_true];exact⟨o[k],List.getElem_mem (by simpa using h),hp⟩
theorem GS{t:ByteArray}{s:RS}{l:List UInt8}(h:¬s.1<t.size):oq t s l=false:=by
 unfold oq;rw[List.any_eq_false];intro c _;rw[mG h];simp
theorem ub(b:Nat)(t:ByteArray)(s:RS)(o:ByteArray)(w:World)(h:RR w b t s)(ho:o.size<=10):
 Calls Tryz.prog 148 #[.pointer (some ⟨b,0,none⟩),.string o] w fun e w'=>e=.returned (.bool (oq t s o.data.toList))/\RR w' b t s/\Kept [b] w w':=by
 go_enter Tryz.func148,Tryz.ntmps148
 go_wp2_with fail
 go_loopw [5] (fun i wr=>∃(k n:Nat),k<=o.size/\i=.int .i64 (k:Int)/\wr=w.drewN n/\oq t s (o.data.toList.take k)=false) (fun i _=>o.size-(intOf i).toNat)
 case atStart=>exact⟨0,0,Nat.zero_le _,rfl,rfl,rfl⟩
 case round=>
  obtain⟨k,n,hk,rfl,rfl,hs⟩:=hrel;have hs:Hid (_=_):=hs;by_cases bO:k<o.size
  ·have h0:=h.c0;by_cases hp:s.1<t.size
   ·have hl:(0:Int)<((uO t s.1).size:Int):=by rw[dc];omega
    have hl':0<(uO t s.1).size:=by omega
    have hg:=sF (t:=t) (p:=s.1) (k:=0) (by omega) hl';go_wp2_with fail
    go_quiet (fail)
    go_wp2
    ·have hb:((t[s.1].toNat:Int)==(o[k].toNat:Int))=true:=by assumption
     go_ret;exact⟨oN (VC bO (by rw[<-zB hp];exact hb)).symm,⟨h.aD,h.fits,h.small⟩,⟨rfl,rfl,rfl,Nat.le_refl _,fun _ _ _=>rfl⟩⟩
    ·have hb:((t[s.1].toNat:Int)==(o[k].toNat:Int))=false:=by assumption
     refine⟨⟨k+1,_,by omega,by go_num,rfl,?_⟩,by simp[intOf];omega⟩;rw[Q8 bO,hs.out,<-zB hp,hb];rfl
   ·have hl:(uO t s.1).size=0:=by rw[dc];omega
    go_wp2_with fail
    go_quiet (fail)
    go_wp2
    refine⟨⟨k+1,_,by omega,by go_num,rfl,GS hp⟩,by simp[intOf];omega⟩
  ·have gH:k=o.size:=by omega
   subst gH;have aA:Hid (oq t s o.data.toList=false):=by
    have:=hs.out;rwa [List.take_of_length_le (by simp)]at this
   go_wp2
   go_ret;exact⟨oN aA.out.symm,⟨h.aD,h.fits,h.small⟩,⟨rfl,rfl,rfl,Nat.le_refl _,fun _ _ _=>rfl⟩⟩
theorem My(b:Nat)(t:ByteArray)(s:RS)(w:World)(h:RR w b t s):
 Calls Tryz.prog 148 #[.pointer (some ⟨b,0,none⟩),.string ⟨#[93]⟩] w fun e w'=>e=.returned (.bool (oq t s [93]))/\RR w' b t s/\Kept [b] w w':=ub b t s _ w h (by decide)
theorem yq(b:Nat)(t:ByteArray)(s:RS)(w:World)(h:RR w b t s):
 Calls Tryz.prog 210 #[.pointer (some ⟨b,0,none⟩)] w fun e w'=>e=.returned (.int .u8 (cp t s).1)/\RR w' b t (cp t s).2/\Kept [b] w w':=by
 by_cases hq:oq t s [93]=true
 ·have e:cp t s=cd t (ak t 92 (fW s)).2:=by unfold cp;rw[if_pos hq]
  rw[e];clear e;go_enter Tryz.func210,Tryz.ntmps210
  go_wp2_with fail
  refine(My b t s _ h).mono ?_;rintro e w1 ⟨rfl,h1,k1⟩;have c1:=h1.c1;have f1:=h1.f 1;have h2:RR _ b t (fW s):=h1.mark;go_wp2_with fail
  refine(gj b 92 t _ _ h2 (by omega) (by omega)).mono ?_;rintro e w3 ⟨rfl,h3,k3⟩;go_wp2_with fail
  refine(hQ b t _ _ h3).mono ?_;rintro e w4 ⟨rfl,h4,k4⟩;go_wp2
  go_ret;exact⟨rfl,h4,((k1.trans ((Kept.refl _ _).setCell (by simp) _)).trans k3).trans k4⟩
 ·have e:cp t s=cd t (ak t 92 s).2:=by unfold cp;rw[if_neg hq]
  have hq:oq t s [93]=false:=by simpa using hq
  rw[e];clear e;go_enter Tryz.func210,Tryz.ntmps210
  go_wp2_with fail
  refine(My b t s _ h).mono ?_;rintro e w1 ⟨rfl,h1,k1⟩;go_wp2_with fail
  refine(gj b 92 t _ _ h1 (by omega) (by omega)).mono ?_;rintro e w3 ⟨rfl,h3,k3⟩;go_wp2_with fail
  refine(hQ b t _ _ h3).mono ?_;rintro e w4 ⟨rfl,h4,k4⟩;go_wp2
  go_ret;exact⟨rfl,h4,(k1.trans k3).trans k4⟩
def bC(f:Nat->Bool):Array Value:=((List.range 256).map (fun i=>Value.bool (f i))).toArray
theorem kE(f:Nat->Bool){i:Nat}(h:i<256):(bC f)[i]?=some (.bool (f i)):=by simp[bC,h]
theorem kF(f f':Nat->Bool)(i:Nat)(h:∀j,j<256->f' j=if j=i then true else f j):(bC f).setIfInBounds i (.bool true)=bC f':=by
 apply Array.ext
 ·simp[bC]
 ·intro j h1 h2;have hj:j<256:=by simpa [bC] using h2
  rw[Array.getElem_setIfInBounds (by simpa [bC] using hj)];simp only[bC,List.getElem_toArray,List.getElem_map,List.getElem_range];rw[h j hj];by_cases Vb:i=j
  ·subst Vb;simp
  ·rw[if_neg Vb,if_neg (by omega)]
theorem JU{t:ByteArray}{s:RS}(h:¬s.1+1<t.size):oo t s=false:=by
 unfold oo;rw[mG (p:=s.1+1) h];simp
theorem Yk{t:ByteArray}{s:RS}(h:s.1+1<t.size):oo t s=((t[s.1].toNat:Int)==45&&((t[s.1+1].toNat:Int) != 93)):=by
 unfold oo;rw[uY (p:=s.1) (by omega),uY h];have:((t[s.1+1].toNat:Int) != -1)=true:=by rw[bne_iff_ne];omega
 rw[this];simp
structure LM (w0 w:World)(b a g:Nat)(t:ByteArray)(neg:Bool)(s:RS)(f:Nat->Bool):Prop where
 rr:RR w b t s
 part:ah w a #[.int .i64 1,.slice (some ⟨g,0,none⟩) 256 256,.bool neg,.slice none 0 0,.int .i64 0,.int .i64 0] 229
 ins:ah w g (bC f) 4
 kept:Kept [b,a,g] w0 w
section
variable {w0 w w':World}{b a g:Nat}{t:ByteArray}{neg:Bool}{s s':RS}{f f':Nat->Bool}
theorem LM.scan(h:LM w0 w b a g t neg s f)(r:RR w' b t s')(k:Kept [b] w w')(ha:a≠b)(hg:g≠b):LM w0 w' b a g t neg s' f:=
 ⟨r,h.part.kept k (by simpa using ha),h.ins.kept k (by simpa using hg),h.kept.trans (k.mono (by simp))⟩
theorem LM.c1(h:LM w0 w b a g t neg s f):w.cell? ⟨a,1,none⟩=some (.slice (some ⟨g,0,none⟩) 256 256):=by rw[h.part.cell];rfl
theorem LM.set(h:LM w0 w b a g t neg s f)(hg:g≠b)(hag:a≠g)(i:Nat)(hi:∀j,j<256->f' j=if j=i then true else f j):
 LM w0 (w.setCell ⟨g,i,none⟩ (.bool true)) b a g t neg s f':=
 ⟨⟨ah.other h.rr.aD _ _ (by omega),h.rr.fits,h.rr.small⟩,ah.other h.part _ _ hag,by rw[<-kF f f' i hi];exact h.ins.set i _,h.kept.setCell (by simp) _⟩
end
def Q9(w:World)(b:Nat):Nat:=match w.cell? ⟨b,1,none⟩,w.cell? ⟨b,0,none⟩ with|some (.bool false),some (.string x)=>x.size+1|_,_=>0
theorem GU{w:World}{b:Nat}{t:ByteArray}{s:RS}(h:RR w b t s):Q9 w b=lM t s:=by
 unfold Q9 lM;rw[h.c0,h.c1];cases s.2 with
 | false=>simp[dc]
 | true=>simp
theorem NZ(b a g:Nat)(t:ByteArray)(s:RS)(w:World)(h:RR w b t s)
 (ha:ah w a #[.int .i64 1,.slice (some ⟨g,0,none⟩) 256 256,.bool false,.slice none 0 0,.int .i64 0,.int .i64 0] 229) (hg:ah w g (bC (fun _=>false)) 4)
 (Gp:a≠b) (Xg:g≠b) (hag:a≠g):
 Calls Tryz.prog 202 #[.pointer (some ⟨b,0,none⟩),.pointer (some ⟨a,0,none⟩)] w fun e w'=>e=.returned (.tuple #[]) /\
  LM w w' b a g t (ak t 94 s).1 (da t (ak t 94 s).2 (fun _=>false)).1 (da t (ak t 94 s).2 (fun _=>false)).2:=by
 have iZ:Hid (t.size<=40):=h.small;go_enter Tryz.func202,Tryz.ntmps202
 go_wp2_with fail
 refine(gj b 94 t s _ h (by omega) (by omega)).mono ?_;rintro e w1 ⟨rfl,h1,k1⟩;have a1:=ha.kept k1 (by simpa using Gp);have g1:=hg.kept k1 (by simpa using Xg);have q0:=a1.frozen 2;have q1:=a1.cell 2;have m1:LM w (w1.setCell ⟨a,2,none⟩ (.bool (ak t 94 s).1)) b a g t (ak t 94 s).1 (ak t 94 s).2 (fun _=>false):=
  ⟨⟨ah.other h1.aD _ _ (Ne.symm Gp),h1.fits,h1.small⟩,a1.set 2 _,ah.other g1 _ _ (Ne.symm hag),(k1.mono (by simp)).setCell (by simp) _⟩
 clear h ha hg h1 a1 g1;go_wp2_with fail
 go_loopw [4] (fun cl wr=>∃(c:Bool) (s':RS) (f':Nat->Bool),cl=.bool c/\LM w wr b a g t (ak t 94 s).1 s' f'/\((c=false/\da t s' f'=da t (ak t 94 s).2 (fun _=>false))\/(c=true/\(s',f')=da t (ak t 94 s).2 (fun _=>false))))
  (fun _ wr=>Q9 wr b)
 case atStart=>exact⟨false,_,_,rfl,m1,Or.inl ⟨rfl,rfl⟩⟩
 case round=>
  obtain⟨c,s',f',rfl,m,hc⟩:=hrel;obtain⟨wo,rfl⟩:∃wo:World,wo=wr:=⟨_,rfl⟩;have hlw:Hid (_=_):=GU m.rr;rcases hc with⟨rfl,hc⟩|⟨rfl,hc⟩;case inr=>
   have hc:Hid (_=_):=hc;go_wp2
   go_end0;refine⟨rfl,?_⟩;rw[<-hc.out];exact m
  have c1:=m.rr.c1;by_cases dO:s'.2=true
  ·have hc:Hid ((s',f')=da t (ak t 94 s).2 (fun _=>false)):=(mJ dO).symm.trans hc;rw[dO]at c1;clear dO;go_wp2
   go_end0;refine⟨rfl,?_⟩;rw[<-hc.out];exact m
  have dO:s'.2=false:=by simpa using dO
  have dD:=m.rr.fits;have hdown:Hid (_<_):=ua (f:=f') dD dO;have hcE:Hid (∀ix:(ak t 93 (bS t s' f').1).1=true,_):=fun ix=>(jS dO ix).symm.trans hc;have hcO:Hid (∀ix:(ak t 93 (bS t s' f').1).1=false,_):=fun ix=>(ml dD dO ix).symm.trans hc;rw[dO]at c1;clear dO hc;go_wp2_with fail
  refine(yq b t s' _ m.rr).mono ?_;rintro e w2 ⟨rfl,h2,k2⟩;have m2:=m.scan h2 k2 Gp Xg;have c2:=m2.rr.c0;go_upto_region 5 with fail
  go_cut [46] (fun s46 wx=>s46=.bool (oo t (cp t s').2)/\wx=w2)
  case first=>
   by_cases hp:(cp t s').2.1+1<t.size
   ·have hl:(1:Int)<((uO t (cp t s').2.1).size:Int):=by rw[dc];omega
    have hl':1<(uO t (cp t s').2.1).size:=by omega
    have hg0:=sF (t:=t) (p:=(cp t s').2.1) (k:=0) (by omega) (by omega);have vb:=sF (t:=t) (p:=(cp t s').2.1) (k:=1) (by omega) (by omega);have yr:=Yk (t:=t) (s:=(cp t s').2) hp;cases e0:((t[(cp t s').2.1].toNat:Int)==45) with
    | false=>
      rw[e0,Bool.false_and]at yr;have yr:Hid (_=_):=yr;go_wp2
      all_goals go_meet
      all_goals exact⟨by rw[yr.out],rfl⟩
    | true=>
      cases e1:((t[(cp t s').2.1+1].toNat:Int) != 93) with
      | false=>
        rw[e0,e1,Bool.true_and]at yr;have yr:Hid (_=_):=yr;go_wp2
        all_goals go_meet
        all_goals exact⟨by rw[yr.out],rfl⟩
      | true=>
        rw[e0,e1,Bool.true_and]at yr;have yr:Hid (_=_):=yr;go_wp2
        all_goals go_meet
        all_goals exact⟨by rw[yr.out],rfl⟩
   ·have hl:¬(1:Int)<((uO t (cp t s').2.1).size:Int):=by rw[dc];omega
    have yr:Hid (_=_):=JU (t:=t) (s:=(cp t s').2) hp;go_wp2
    all_goals go_meet
    all_goals refine⟨?_,rfl⟩
    all_goals rw[yr.out]
  case rest=>
   obtain⟨rfl,rfl⟩:=hcut;go_upto_if 46 with fail
   have vd:=h2.fits;go_cut [6] (fun s6 wx=>s6=.int .u8 (oJ t s').1/\LM w wx b a g t (ak t 94 s).1 (oJ t s').2 f')
   case first=>
    go_wp2_with fail
    ·have hq:oo t (cp t s').2=true:=by assumption
     have e:Hid (_=_):=show oJ t s'=cp t (cd t (cp t s').2).2 from if_pos hq
     refine(hQ b t _ _ h2).mono ?_;rintro e1 w3 ⟨rfl,h3,k3⟩;go_wp2_with fail
     refine(yq b t _ _ h3).mono ?_;rintro e1 w4 ⟨rfl,h4,k4⟩;go_wp2_with fail
     go_meet;rw[e.out];exact⟨rfl,m2.scan h4 (k3.trans k4) Gp Xg⟩
    ·have hq:oo t (cp t s').2=false:=by assumption
     have e:Hid (_=_):=show oJ t s'=cp t s' from if_neg (by rw[hq];decide)
     go_meet;rw[e.out];exact⟨rfl,m2⟩
   case rest=>
    obtain⟨rfl,m3⟩:=hcut;clear m2 k2 h2 c2 m vd;go_upto_if 53 with fail
    have r1:=m3.rr.c1;have r2:=m3.rr.f 1;go_cut [] (fun wx=>LM w wx b a g t (ak t 94 s).1 (bS t s' f').1 f')
    case first=>
     go_wp2_with fail
     ·have hq:(oJ t s').1<(cp t s').1:=by assumption
      have e:Hid ((bS t s' f').1=fW (oJ t s').2):=if_pos hq;go_meet;rw[e.out];exact⟨m3.rr.mark,ah.other m3.part _ _ Gp,ah.other m3.ins _ _ Xg,m3.kept.setCell (by simp) _⟩
     ·have hq:¬(oJ t s').1<(cp t s').1:=by omega
      have e:Hid ((bS t s' f').1=(oJ t s').2):=if_neg hq;go_meet;rw[e.out];exact m3
    case rest=>
     have m4:=hcut;clear hcut m3 r1 r2;have bd1:=EH t s';have bd2:=Yj t s';go_wp2_with fail
     go_loopw [7] (fun c wr=>∃k:Int,c=.int .i64 k/\(cp t s').1<=k/\(k<=(oJ t s').1+1\/k=(cp t s').1)/\LM w wr b a g t (ak t 94 s).1 (bS t s' f').1 (oO f' (cp t s').1 (k-1)))
      (fun c _=>((oJ t s').1+1-intOf c).toNat)
     case atStart=>
      refine⟨_,rfl,Int.le_refl _,Or.inr rfl,?_⟩;have e:oO f' (cp t s').1 ((cp t s').1-1)=f':=by
       funext i
       unfold oO;rw[decide_eq_false (by omega),Bool.or_false]
      rw[e];exact m4
     case round=>
      obtain⟨k,rfl,nL,gH,m5⟩:=hrel;have d1:=m5.c1;obtain⟨n,rfl⟩:=Int.eq_ofNat_of_zero_le (show 0<=k by omega);by_cases hle:(n:Int)<=(oJ t s').1
      ·have hn:n<256:=by omega
       have d2:wr.cell? ⟨g,n,none⟩=some (.bool (oO f' (cp t s').1 ((n:Int)-1) n)):=by rw[m5.ins.cell,kE _ hn]
       have d3:=m5.ins.frozen n;have m6:=m5.set (f':=oO f' (cp t s').1 (((n+1:Nat):Int)-1)) Xg hag n (fun j hj=>by
        unfold oO;by_cases uc:j=n
        ·subst uc;rw[if_pos rfl,decide_eq_true (by omega),Bool.or_true]
        ·rw[if_neg uc];congr 1
         apply decide_eq_decide.2;omega)
       have m6:Hid (LM _ _ _ _ _ _ _ _ _):=m6;go_wp2
       refine⟨⟨((n+1:Nat):Int),by go_num,by omega,by omega,m6.out⟩,?_⟩;simp only[intOf];omega
      ·have e:oO f' (cp t s').1 ((n:Int)-1)=(bS t s' f').2:=by
        show _=oO f' (cp t s').1 (oJ t s').1;funext i
        unfold oO;congr 1
        apply decide_eq_decide.2;omega
       rw[e]at m5;clear e;go_wp2_with fail
       refine(gj b 93 t _ _ m5.rr (by omega) (by omega)).mono ?_;rintro e1 w7 ⟨rfl,h7,k7⟩;have m7:=m5.scan h7 k7 Gp Xg;have Yl:=GU h7;have Yl:Hid (_=_):=Yl;go_wp2
       refine⟨⟨_,_,_,rfl,m7,?_⟩,by rw[Yl.out,hlw.out];exact hdown.out⟩;cases ix:(ak t 93 (bS t s' f').1).1 with
       | false=>exact Or.inl ⟨rfl,hcO.out ix⟩
       | true=>exact Or.inr ⟨rfl,hcE.out ix⟩
structure BM (w0 w:World)(b a:Nat)(t:ByteArray)(kv:Value)(s:RS)(least most:Int):Prop where
 rr:RR w b t s
 part:ah w a #[.int .i64 6,.slice none 0 0,.bool false,kv,.int .i64 least,.int .i64 most] 229
 kept:Kept [b,a] w0 w
section
variable {w0 w w':World}{b a:Nat}{t:ByteArray}{kv:Value}{s s':RS}{l m:Int}
theorem BM.scan(h:BM w0 w b a t kv s l m)(r:RR w' b t s')(k:Kept [b] w w')(ha:a≠b):BM w0 w' b a t kv s' l m:=
 ⟨r,h.part.kept k (by simpa using ha),h.kept.trans (k.mono (by simp))⟩
theorem BM.least(h:BM w0 w b a t kv s l m)(ha:a≠b)(x:Int):BM w0 (w.setCell ⟨a,4,none⟩ (.int .i64 x)) b a t kv s x m:=
 ⟨⟨ah.other h.rr.aD _ _ (Ne.symm ha),h.rr.fits,h.rr.small⟩,h.part.set 4 _,h.kept.setCell (by simp) _⟩
theorem BM.most(h:BM w0 w b a t kv s l m)(ha:a≠b)(x:Int):BM w0 (w.setCell ⟨a,5,none⟩ (.int .i64 x)) b a t kv s l x:=
 ⟨⟨ah.other h.rr.aD _ _ (Ne.symm ha),h.rr.fits,h.rr.small⟩,h.part.set 5 _,h.kept.setCell (by simp) _⟩
theorem BM.mark(h:BM w0 w b a t kv s l m)(ha:a≠b):BM w0 (w.setCell ⟨b,1,none⟩ (.bool true)) b a t kv (fW s) l m:=
 ⟨h.rr.mark,ah.other h.part _ _ ha,h.kept.setCell (by simp) _⟩
theorem BM.drewN(h:BM w0 w b a t kv s l m)(n:Nat):BM w0 (w.drewN n) b a t kv s l m:=⟨⟨h.rr.aD,h.rr.fits,h.rr.small⟩,h.part,h.kept.drewN n⟩
theorem BM.c4(h:BM w0 w b a t kv s l m):w.cell? ⟨a,4,none⟩=some (.int .i64 l):=by rw[h.part.cell];rfl
theorem BM.c5(h:BM w0 w b a t kv s l m):w.cell? ⟨a,5,none⟩=some (.int .i64 m):=by rw[h.part.cell];rfl
end
theorem GV{t:ByteArray}{s:RS}(h1:(ak t 44 (cd t s).2).1=true)(h2:(ak t 125 (ak t 44 (cd t s).2).2).1=true):
 bu t s=(-1,ak t 125 (ak t 44 (cd t s).2).2):=by unfold bu;simp only[];rw[if_pos ⟨h1,h2⟩]
theorem GW{t:ByteArray}{s:RS}(h1:(ak t 44 (cd t s).2).1=true)(h2:(ak t 125 (ak t 44 (cd t s).2).2).1=false):
 bu t s=(let n:=cd t (ak t 125 (ak t 44 (cd t s).2).2).2
  let e:=ak t 125 n.2
  (n.1-48,(e.1,if n.1<48\/57<n.1\/n.1-48<(cd t s).1-48 then fW e.2 else e.2))):=by
 unfold bu;simp only[];rw[if_neg (by rw[h2];simp),if_pos h1]
theorem GX{t:ByteArray}{s:RS}(h1:(ak t 44 (cd t s).2).1=false):bu t s=((cd t s).1-48,ak t 125 (ak t 44 (cd t s).2).2):=by
 unfold bu;simp only[];rw[if_neg (by rw[h1];simp),if_neg (by rw[h1];simp)]
theorem GY(b a:Nat)(t:ByteArray)(kv:Value)(s:RS)(w:World)(h:RR w b t s)
 (ha:ah w a #[.int .i64 6,.slice none 0 0,.bool false,kv,.int .i64 0,.int .i64 (-1)] 229) (Gp:a≠b):
 Calls Tryz.prog 187 #[.pointer (some ⟨b,0,none⟩),.pointer (some ⟨a,0,none⟩)] w fun e w'=>e=.returned (.tuple #[]) /\
  BM w w' b a t kv (nD t s).2 (nD t s).1.1 (nD t s).1.2:=by
 have bd1:=GO t s;have m0:BM w w b a t kv s 0 (-1):=⟨h,ha,Kept.refl _ _⟩;clear ha;go_enter Tryz.func187,Tryz.ntmps187
 go_wp2_with fail
 refine(hQ b t s _ h).mono ?_;rintro e w1 ⟨rfl,h1,k1⟩;have m1:=m0.scan h1 k1 Gp;have q1:=m1.c4;have q2:=m1.c5;have q3:=m1.part.frozen 4;have q4:=m1.part.frozen 5;have m2:=(m1.least Gp ((cd t s).1-48)).most Gp ((cd t s).1-48);clear h m0 h1 k1;go_wp2_with fail
 refine(gj b 44 t _ _ m2.rr (by omega) (by omega)).mono ?_;rintro e w3 ⟨rfl,h3,k3⟩;have m3:=m2.scan h3 k3 Gp;go_wp2_with fail
 refine(gj b 125 t _ _ m3.rr (by omega) (by omega)).mono ?_;rintro e w4 ⟨rfl,h4,k4⟩;have m4:=m3.scan h4 k4 Gp;clear m1 m2 m3 h3 h4 k3 k4 q1 q2 q3 q4;have q3:=m4.part.frozen 4;have q4:=m4.part.frozen 5;have q1:=m4.c4;have q2:=m4.c5;go_upto_region 5 with fail
 go_cut [5,6,30] (fun s5 s6 s30 wx=>s5=.bool (ak t 44 (cd t s).2).1/\s6=.bool (ak t 125 (ak t 44 (cd t s).2).2).1/\s30=.bool ((ak t 44 (cd t s).2).1&&(ak t 125 (ak t 44 (cd t s).2).2).1)/\wx=w4)
 case first=>
  cases hc:(ak t 44 (cd t s).2).1 with
  | false=>
    go_wp2
    go_meet;exact⟨by rw[hc],rfl,by rw[hc];rfl,rfl⟩
  | true=>
    go_wp2
    go_meet;exact⟨by rw[hc],rfl,by rw[hc];rfl,rfl⟩
 case rest=>
  obtain⟨rfl,rfl,rfl,rfl⟩:=hcut;go_upto_if 30 with fail
  go_cut [5,6,7] (fun s5 s6 s7 wx=>s5=.bool (ak t 44 (cd t s).2).1/\s6=.bool (bu t s).2.1/\BM w wx b a t kv (bu t s).2.2 ((cd t s).1-48) (bu t s).1)
  case first=>
   go_wp2_with fail
   ·have hcd:(ak t 44 (cd t s).2).1=true/\(ak t 125 (ak t 44 (cd t s).2).2).1=true:=by assumption
    have e:Hid (_=_):=GV hcd.1 hcd.2;have m5:=m4.most Gp (-1);go_meet;rw[e.out];exact⟨rfl,by rw[hcd.2],m5⟩
   ·have hc:(ak t 44 (cd t s).2).1=true:=by assumption
    have hd:(ak t 125 (ak t 44 (cd t s).2).2).1=false:=by
     have tL:(ak t 44 (cd t s).2).1=false\/(ak t 125 (ak t 44 (cd t s).2).2).1=false:=by assumption
     rcases tL with hx|hx
     ·rw[hc]at hx;cases hx
     ·exact hx
    have e:Hid (_=_):=GW hc hd;have bdn:=GO t (ak t 125 (ak t 44 (cd t s).2).2).2;refine(hQ b t _ _ m4.rr).mono ?_;rintro e5 w5 ⟨rfl,h5,k5⟩;have m5:=m4.scan h5 k5 Gp;have g1:=m5.c5;have g2:=m5.part.frozen 5;have m6:=m5.most Gp ((cd t (ak t 125 (ak t 44 (cd t s).2).2).2).1-48);go_wp2_with fail
    refine(gj b 125 t _ _ m6.rr (by omega) (by omega)).mono ?_;rintro e7 w7 ⟨rfl,h7,k7⟩;have m7:=m6.scan h7 k7 Gp;clear m4 m5 m6 g1 g2 q1 q2 q3 q4;have g1:=m7.c5;have g2:=m7.c4;have g3:=m7.rr.c1;have g4:=m7.rr.f 1;have mk:=fun n=>(m7.drewN n).mark Gp;generalize hn:(cd t (ak t 125 (ak t 44 (cd t s).2).2).2)=n at *;have hn:Hid (_=_):=hn;have hc:Hid (_=_):=hc;go_upto_region 11 with fail
    go_cut [61] (fun s61 wx=>s61=.bool (decide (n.1<48) || decide (57<n.1) || decide (n.1-48<(cd t s).1-48))/\∃k,wx=w7.drewN k)
    case first=>
     clear m7 mk g3 g4 k7 h7 h5 e hn;by_cases l1:n.1<48
     ·have d1:decide (n.1<48)=true:=by simpa using l1
      go_quiet (fail)
      try go_wp2_with fail
      go_meet;exact⟨by simp[l1],_,rfl⟩
     have d1:decide (n.1<48)=false:=by simpa using l1
     by_cases l2:57<n.1
     ·have d2:decide (57<n.1)=true:=by simpa using l2
      go_quiet (fail)
      try go_wp2_with fail
      go_meet;exact⟨by simp[l2],_,rfl⟩
     have d2:decide (57<n.1)=false:=by simpa using l2
     go_quiet (fail)
     try go_wp2_with fail
     go_meet;exact⟨by rw[d1,d2,Bool.false_or,Bool.false_or];congr 1;apply decide_eq_decide.2;omega,_,rfl⟩
    case rest=>
     obtain⟨rfl,k,rfl⟩:=hcut;have g3:(w7.drewN k).cell? ⟨b,1,none⟩=some (.bool (ak t 125 n.2).2.2):=g3;have g4:(w7.drewN k).frozen? ⟨b,1,none⟩=false:=g4;go_wp2_with fail
     ·go_meet;rw[e.out];simp only[];rw[if_pos (by omega)];exact⟨by rw[hc.out],by first | rfl | trivial,mk _⟩
     ·go_meet;rw[e.out];simp only[];rw[if_neg (by omega)];exact⟨by rw[hc.out],by first | rfl | trivial,m7.drewN _⟩
   ·have hc:(ak t 44 (cd t s).2).1=false:=by assumption
    have e:Hid (_=_):=GX hc;go_meet;rw[e.out];exact⟨rfl,rfl,m4⟩
  case rest=>
   obtain⟨rfl,rfl,m5⟩:=hcut;have g3:=m5.rr.c1;have g4:=m5.rr.f 1;have mk:=m5.mark Gp;by_cases l1:(cd t s).1<48
   ·have e:Hid ((nD t s).2=fW (bu t s).2.2):=if_pos (Or.inl l1);go_wp2
    go_end0;refine⟨rfl,?_⟩;rw[e.out];exact mk
   by_cases l2:57<(cd t s).1
   ·have e:Hid ((nD t s).2=fW (bu t s).2.2):=if_pos (Or.inr (Or.inl l2));go_wp2
    go_end0;refine⟨rfl,?_⟩;rw[e.out];exact mk
   cases ix:(bu t s).2.1 with
   | false=>
     have e:Hid ((nD t s).2=fW (bu t s).2.2):=if_pos (Or.inr (Or.inr ix));go_wp2
     go_end0;refine⟨rfl,?_⟩;rw[e.out];exact mk
   | true=>
     have e:Hid ((nD t s).2=(bu t s).2.2):=if_neg (by rw[ix];simp;omega);go_wp2
     go_end0;refine⟨rfl,?_⟩;rw[e.out];exact m5
structure RD (w:World)(b:Nat)(t:ByteArray)(s:RS)(v:Value):Prop where
 aD:ah w b #[.string t,.int .i64 (s.1:Int),v,.bool s.2] 214
 fits:Fits t s
 small:t.size<=40
section
variable {w w':World}{b p:Nat}{t:ByteArray}{s:RS}{v:Value}{bad:Bool}
theorem RD.c0(h:RD w b t s v):w.cell? ⟨b,0,none⟩=some (.string t):=by rw[ah.cell h.aD];rfl
theorem RD.c1(h:RD w b t s v):w.cell? ⟨b,1,none⟩=some (.int .i64 (s.1:Int)):=by rw[ah.cell h.aD];rfl
theorem RD.c2(h:RD w b t s v):w.cell? ⟨b,2,none⟩=some v:=by rw[ah.cell h.aD];rfl
theorem RD.c3(h:RD w b t s v):w.cell? ⟨b,3,none⟩=some (.bool s.2):=by rw[ah.cell h.aD];rfl
theorem RD.f(h:RD w b t s v)(j:Nat):w.frozen? ⟨b,j,none⟩=false:=ah.frozen h.aD j
theorem RD.upto(h:RD w b t s v)(p:Nat)(hp:p<=t.size):RD (w.setCell ⟨b,1,none⟩ (.int .i64 (p:Int))) b t (p,s.2) v:=⟨ah.set h.aD 1 _,hp,h.small⟩
theorem RD.mark(h:RD w b t s v):RD (w.setCell ⟨b,3,none⟩ (.bool true)) b t (s.1,true) v:=⟨ah.set h.aD 3 _,h.fits,h.small⟩
theorem RD.kept{S:List Nat}(h:RD w b t s v)(k:Kept S w w')(hb:¬b∈S):RD w' b t s v:=⟨ah.kept h.aD k hb,h.fits,h.small⟩
end
theorem GZ(b k:Nat)(t:ByteArray)(s:RS)(v:Value)(w:World)(h:RD w b t s v)(hk:k<=1):
 Calls Tryz.prog 198 #[.pointer (some ⟨b,0,none⟩),.int .i64 (k:Int)] w fun e w'=>e=.returned (.int .i64 (pk t (s.1+k)))/\w'=w:=by
 have h0:=h.c0;have h1:=h.c1;have hp:=h.fits;have hs:=h.small;obtain⟨p,bad⟩:=s;simp only[Fits]at hp;clear h;by_cases bO:p+k<t.size
 ·go_enter Tryz.func198,Tryz.ntmps198
  go_wp2
  go_ret;exact⟨bQ (by rw[uY bO];have:=t[p+k].toNat_lt;exact wrap64_in _ (by omega)),rfl⟩
 ·go_enter Tryz.func198,Tryz.ntmps198
  go_wp2
  go_ret;exact⟨bQ (by rw[mG bO]),rfl⟩
theorem tM(b:Nat)(t:ByteArray)(s:RS)(v:Value)(w:World)(h:RD w b t s v):
 Calls Tryz.prog 198 #[.pointer (some ⟨b,0,none⟩),.int .i64 0] w fun e w'=>e=.returned (.int .i64 (pk t s.1))/\w'=w:=GZ b 0 t s v w h (by omega)
theorem peek1(b:Nat)(t:ByteArray)(s:RS)(v:Value)(w:World)(h:RD w b t s v):
 Calls Tryz.prog 198 #[.pointer (some ⟨b,0,none⟩),.int .i64 1] w fun e w'=>e=.returned (.int .i64 (pk t (s.1+1)))/\w'=w:=GZ b 1 t s v w h (by omega)
theorem fY(b:Nat)(t:ByteArray)(s:RS)(v:Value)(w:World)(h:RD w b t s v):
 Calls Tryz.prog 137 #[.pointer (some ⟨b,0,none⟩)] w fun e w'=>e=.returned (.tuple #[])/\RD w' b t (cN t) v/\Kept [b] w w':=by
 have h0:=h.c0;have h1:=h.c1;have h3:=h.c3;have f1:=h.f 1;have f3:=h.f 3;have hs:=h.small;go_enter Tryz.func137,Tryz.ntmps137
 go_wp2
 go_end0;exact⟨rfl,h.mark.upto _ (Nat.le_refl _),((Kept.refl _ _).setCell (by simp) _).setCell (by simp) _⟩
theorem cD(b:Nat)(t:ByteArray)(s:RS)(v:Value)(w:World)(h:RD w b t s v):
 Calls Tryz.prog 211 #[.pointer (some ⟨b,0,none⟩)] w fun e w'=>e=.returned (.int .i64 (aw t s).1)/\RD w' b t (aw t s).2 v/\Kept [b] w w':=by
 have h1:=h.c1;have f1:=h.f 1;have hp:=h.fits;have hs:=h.small;simp only[Fits]at hp;by_cases hn:pk t s.1 = -1
 ·have hb:(pk t s.1==-1)=true:=by rw[hn];rfl
  have e:aw t s=(0,cN t):=if_pos hn;rw[e];clear hn e;go_enter Tryz.func211,Tryz.ntmps211
  go_wp2_with (first | (go_at_call 198;refine(tM b t s v _ h).mono ?_;rintro e w' ⟨rfl,rfl⟩) | (go_at_call 137;refine(fY b t s v _ h).mono ?_;rintro e w' ⟨rfl,h',k'⟩))
  go_ret;exact⟨rfl,h',k'⟩
 ·have hb:(pk t s.1==-1)=false:=by simpa using hn
  have e:aw t s=(pk t s.1,(s.1+1,s.2)):=if_neg hn;have hl:s.1<t.size:=by rw[kB]at hn;omega
  rw[e];clear hn e;go_enter Tryz.func211,Tryz.ntmps211
  go_wp2_with (first | (go_at_call 198;refine(tM b t s v _ h).mono ?_;rintro e w' ⟨rfl,rfl⟩))
  go_ret;exact⟨rfl,h.upto (s.1+1) (by omega),(Kept.refl _ _).setCell (by simp) _⟩
theorem cE(b:Nat)(c:Int)(t:ByteArray)(s:RS)(v:Value)(w:World)(h:RD w b t s v)(hc:0<=c)(hc':c<=255):
 Calls Tryz.prog 169 #[.pointer (some ⟨b,0,none⟩),.int .i64 c] w fun e w'=>e=.returned (.bool (ak t c s).1)/\RD w' b t (ak t c s).2 v/\Kept [b] w w':=by
 have h1:=h.c1;have f1:=h.f 1;have hp:=h.fits;have hs:=h.small;simp only[Fits]at hp;by_cases hn:pk t s.1=c
 ·have hb:(pk t s.1 != c)=false:=by rw[hn];simp
  have e:ak t c s=(true,(s.1+1,s.2)):=if_pos hn;have hl:s.1<t.size:=kC (by omega);rw[e];clear hn e;go_enter Tryz.func169,Tryz.ntmps169
  go_wp2_with (first | (go_at_call 198;refine(tM b t s v _ h).mono ?_;rintro e w' ⟨rfl,rfl⟩))
  go_ret;exact⟨rfl,h.upto (s.1+1) (by omega),(Kept.refl _ _).setCell (by simp) _⟩
 ·have hb:(pk t s.1 != c)=true:=by simpa using hn
  have e:ak t c s=(false,s):=if_neg hn;rw[e];clear hn e;go_enter Tryz.func169,Tryz.ntmps169
  go_wp2_with (first | (go_at_call 198;refine(tM b t s v _ h).mono ?_;rintro e w' ⟨rfl,rfl⟩))
  go_ret;exact⟨rfl,h,Kept.refl _ _⟩
theorem sG(b:Nat)(t:ByteArray)(s:RS)(v:Value)(w:World)(h:RD w b t s v):
 Calls Tryz.prog 195 #[.pointer (some ⟨b,0,none⟩)] w fun e w'=>e=.returned (.bool (jj t s))/\w'=w:=by
 go_enter Tryz.func195,Tryz.ntmps195
 go_wp2_with (first | (go_at_call 198;refine(tM b t s v _ h).mono ?_;rintro e w' ⟨rfl,rfl⟩))
 all_goals go_ret
 all_goals exact⟨oN (by simp[jj, *]),rfl⟩
theorem Dg(b:Nat)(t:ByteArray)(s:RS)(v:Value)(w:World)(h:RD w b t s v):
 Calls Tryz.prog 206 #[.pointer (some ⟨b,0,none⟩)] w fun e w'=>e=.returned (.bool (kN t s))/\w'=w:=by
 go_enter Tryz.func206,Tryz.ntmps206
 go_wp2_with (first | (go_at_call 198;refine(tM b t s v _ h).mono ?_;rintro e w' ⟨rfl,rfl⟩))
 all_goals go_ret
 all_goals exact⟨oN (by simp[kN, *]),rfl⟩
theorem zY(b:Nat)(t:ByteArray)(s:RS)(v:Value)(w:World)(h:RD w b t s v):
 Calls Tryz.prog 216 #[.pointer (some ⟨b,0,none⟩)] w fun e w'=>e=.returned (.bool (lL t s))/\w'=w:=by
 go_enter Tryz.func216,Tryz.ntmps216
 go_wp2_with (first | (go_at_call 198;refine(tM b t s v _ h).mono ?_;rintro e w' ⟨rfl,rfl⟩))
 all_goals go_ret
 all_goals exact⟨oN (by simp[lL, *]),rfl⟩
theorem xh(b:Nat)(t:ByteArray)(s:RS)(v:Value)(w:World)(h:RD w b t s v):
 Calls Tryz.prog 221 #[.pointer (some ⟨b,0,none⟩)] w fun e w'=>e=.returned (.bool (oo t s))/\w'=w:=by
 go_enter Tryz.func221,Tryz.ntmps221
 go_wp2_with fail
 refine(tM b t s v _ h).mono ?_;rintro e w' ⟨rfl,rfl⟩;go_wp2_with fail
 refine(peek1 b t s v _ h).mono ?_;rintro e w' ⟨rfl,rfl⟩;go_wp2
 all_goals go_ret
 all_goals exact⟨oN (by simp[oo, *]),rfl⟩
theorem mK(b:Nat)(t:ByteArray)(s:RS)(v:Value)(w:World)(h:RD w b t s v):
 Calls Tryz.prog 220 #[.pointer (some ⟨b,0,none⟩)] w fun e w'=>e=.returned (.int .i64 (dC t s).1)/\RD w' b t (dC t s).2 v/\Kept [b] w w':=by
 by_cases hn:(aw t s).1=92
 ·have hb:((aw t s).1==92)=true:=by rw[hn];rfl
  have e:dC t s=aw t (aw t s).2:=if_pos hn;rw[e];clear hn e;go_enter Tryz.func220,Tryz.ntmps220
  go_wp2_with fail
  refine(cD b t s v _ h).mono ?_;rintro e w1 ⟨rfl,h1,k1⟩;go_wp2_with fail
  refine(cD b t _ v _ h1).mono ?_;rintro e w2 ⟨rfl,h2,k2⟩;go_wp2
  go_ret;exact⟨rfl,h2,k1.trans k2⟩
 ·have hb:((aw t s).1==92)=false:=by simpa using hn
  have e:dC t s=aw t s:=if_neg hn;rw[e];clear hn e;go_enter Tryz.func220,Tryz.ntmps220
  go_wp2_with fail
  refine(cD b t s v _ h).mono ?_;rintro e w1 ⟨rfl,h1,k1⟩;go_wp2
  go_ret;exact⟨rfl,h1,k1⟩
theorem mm(b:Nat)(t:ByteArray)(s:RS)(v:Value)(w:World)(h:RD w b t s v):
 Calls Tryz.prog 218 #[.pointer (some ⟨b,0,none⟩)] w fun e w'=>e=.returned (.int .i64 (eg t s).1)/\RD w' b t (eg t s).2 v/\Kept [b] w w':=by
 have Cv:=Vy t s;by_cases hn:(aw t s).1<48
 ·have e:eg t s=(0,cN t):=if_pos (Or.inl hn);rw[e];clear e;go_enter Tryz.func218,Tryz.ntmps218
  go_wp2_with fail
  refine(cD b t s v _ h).mono ?_;rintro e w1 ⟨rfl,h1,k1⟩;go_wp2_with fail
  refine(fY b t _ v _ h1).mono ?_;rintro e w2 ⟨rfl,h2,k2⟩;go_wp2
  go_ret;exact⟨rfl,h2,k1.trans k2⟩
 by_cases hm:57<(aw t s).1
 ·have e:eg t s=(0,cN t):=if_pos (Or.inr hm);rw[e];clear e;go_enter Tryz.func218,Tryz.ntmps218
  go_wp2_with fail
  refine(cD b t s v _ h).mono ?_;rintro e w1 ⟨rfl,h1,k1⟩;go_wp2_with fail
  refine(fY b t _ v _ h1).mono ?_;rintro e w2 ⟨rfl,h2,k2⟩;go_wp2
  go_ret;exact⟨rfl,h2,k1.trans k2⟩
 ·have e:eg t s=((aw t s).1-48,(aw t s).2):=if_neg (by omega);rw[e];clear e;go_enter Tryz.func218,Tryz.ntmps218
  go_wp2_with fail
  refine(cD b t s v _ h).mono ?_;rintro e w1 ⟨rfl,h1,k1⟩;go_wp2
  go_ret;exact⟨rfl,h1,k1⟩
theorem sH(b:Nat)(t:ByteArray)(s:RS)(v:Value)(w:World)(h:RD w b t s v):
 Calls Tryz.prog 219 #[.pointer (some ⟨b,0,none⟩)] w fun e w'=>e=.returned (.int .i64 (JS t s).1)/\RD w' b t (JS t s).2 v/\Kept [b] w w':=by
 by_cases hn:pk t s.1=125
 ·have hb:(pk t s.1==125)=true:=by rw[hn];rfl
  have e:JS t s=(-1,s):=if_pos hn;rw[e];clear hn e;go_enter Tryz.func219,Tryz.ntmps219
  go_wp2_with fail
  refine(tM b t s v _ h).mono ?_;rintro e w1 ⟨rfl,rfl⟩;go_wp2
  go_ret;exact⟨rfl,h,Kept.refl _ _⟩
 ·have hb:(pk t s.1==125)=false:=by simpa using hn
  have e:JS t s=eg t s:=if_neg hn;rw[e];clear hn e;go_enter Tryz.func219,Tryz.ntmps219
  go_wp2_with fail
  refine(tM b t s v _ h).mono ?_;rintro e w1 ⟨rfl,rfl⟩;go_wp2_with fail
  refine(mm b t s v _ h).mono ?_;rintro e w1 ⟨rfl,h1,k1⟩;go_wp2
  go_ret;exact⟨rfl,h1,k1⟩
end Go.Proofs.YtgifhgnccmnbiabGreatDoor
