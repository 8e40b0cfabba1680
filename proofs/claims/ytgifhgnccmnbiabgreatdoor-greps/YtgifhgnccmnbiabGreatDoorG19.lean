/- Part of the proof. -/
import Derived.Test.YtgifhgnccmnbiabGreatDoorG18
import Derived.Test.YtgifhgnccmnbiabGreatDoorG16
import Derived.Test.YtgifhgnccmnbiabGreatDoorG15
set_option linter.unusedVariables false
set_option linter.unusedSimpArgs false
set_option maxHeartbeats 4000000
set_option maxRecDepth 100000
namespace Go.Proofs.YtgifhgnccmnbiabGreatDoor
open Go.RowKit Go.IntWalk
def qq(h:QX):Array Value:=#[.int .i64 (h.pos:Int),.int .i64 (h.cL:Int),.int .i64 (h.lines:Int),UV h.set]
structure LW (w x:World)(c:Array Value):Prop where
 k:Kept [] w x
 r:ah x (w.heap.size+1) #[.int .i64 0,.int .i64 0,.int .i64 0,.int .u64 0] 143
 c:ah x (w.heap.size+1+1) c 143
theorem LW.kept{w x y:World}{c:Array Value}(h:LW w x c)(k:Kept [] x y):LW w y c:=⟨h.k.trans k,h.r.kept k (by simp),h.c.kept k (by simp)⟩
theorem LW.set{w x:World}{c:Array Value}(h:LW w x c)(j:Nat)(v:Value):LW w (x.setCell ⟨w.heap.size+1+1,j,none⟩ v) (c.setIfInBounds j v):=
 ⟨h.k.setCell (Or.inr (by simp;omega)) _,h.r.other _ _ (by omega),h.c.set j v⟩
theorem zx{w:World}{g:Nat}{c0 c1 c2 c3:Value}{t:TypeId}(h:ah w g #[c0,c1,c2,c3] t):
 w.cell? ⟨g,0,none⟩=some c0/\w.cell? ⟨g,1,none⟩=some c1/\w.cell? ⟨g,2,none⟩=some c2/\w.cell? ⟨g,3,none⟩=some c3/\g<w.heap.size:=
 ⟨h.cell 0,h.cell 1,h.cell 2,h.cell 3,h.lt⟩
theorem BS{w:World}{g:Nat}{cs:Array Value}{t:TypeId}(h:ah w g cs t):
 w.frozen? ⟨g,0,none⟩=false/\w.frozen? ⟨g,1,none⟩=false/\w.frozen? ⟨g,2,none⟩=false/\w.frozen? ⟨g,3,none⟩=false:=
 ⟨h.frozen 0,h.frozen 1,h.frozen 2,h.frozen 3⟩
theorem res4{w:World}{g:Nat}{c0 c1 c2 c3:Value}{t:TypeId}(h:ah w g #[c0,c1,c2,c3] t)(v0 v1 v2 v3:Value):
 ah ((((w.setCell ⟨g,0,none⟩ v0).setCell ⟨g,1,none⟩ v1).setCell ⟨g,2,none⟩ v2).setCell ⟨g,3,none⟩ v3) g #[v0,v1,v2,v3] t:=by
 have h0:ah _ g #[v0,c1,c2,c3] t:=h.set 0 v0;have h1:ah _ g #[v0,v1,c2,c3] t:=h0.set 1 v1;have h2:ah _ g #[v0,v1,v2,c3] t:=h1.set 2 v2;have h3:ah _ g #[v0,v1,v2,v3] t:=h2.set 3 v3;exact h3
theorem LW.done{w x:World}{v0 v1 v2 v3:Value}(h:LW w x #[v0,v1,v2,v3]):
 Kept [] w ((((x.setCell ⟨w.heap.size+1,0,none⟩ v0).setCell ⟨w.heap.size+1,1,none⟩ v1).setCell ⟨w.heap.size+1,2,none⟩ v2).setCell ⟨w.heap.size+1,3,none⟩ v3) /\
 ah ((((x.setCell ⟨w.heap.size+1,0,none⟩ v0).setCell ⟨w.heap.size+1,1,none⟩ v1).setCell ⟨w.heap.size+1,2,none⟩ v2).setCell ⟨w.heap.size+1,3,none⟩ v3) (w.heap.size+1) #[v0,v1,v2,v3] 143:=
 ⟨(((h.k.setCell (Or.inr (by simp)) _).setCell (Or.inr (by simp)) _).setCell (Or.inr (by simp)) _).setCell (Or.inr (by simp)) _,res4 h.r _ _ _ _⟩
theorem y8{w:World}{g o:Nat}{p:oM}{a:Option Addr}(hp:uV w g o p a)(h:QX)(Lo:p.nl≠0->p.tail<=p.len)(h1:h.pos<=1099511627776)(h2:h.cL<=1099511627776)(h3:h.lines<=1099511627776):
 Calls Tryz.prog 79 #[.agg #[.int .i64 (h.pos:Int),.int .i64 (h.cL:Int),.int .i64 (h.lines:Int),UV h.set],.pointer (some ⟨g,o,none⟩)] w fun e w'=>e=.returned (.agg (qq (ma h p)))/\Kept [] w w':=by
 have p0:=hp.c0;have p1:=hp.c1;have b0:=hp.bd.len;have b1:=hp.bd.nl;have lg:=hp.lt;obtain⟨HP,HB,HL,HS⟩:=h;simp only[]at h1 h2 h3 ⊢;by_cases hn:p.nl=0
 ·obtain⟨G,O,rfl,tT,lT⟩:=hp.bP hn;have p2:=hp.c2;have p3:=hp.c3;have e:Hid (ma ⟨HP,HB,HL,HS⟩ p=⟨HP+p.len,HB,HL,cn (je p.nx) p.tk HS⟩):=by show ma _ _=_;unfold ma;rw[if_pos hn,hn];rfl
  have QL:Hid (∀w',Kept [] w w'->Calls _ _ _ w' _):=fun w' k=>vG (je p.nx) G O p.tk HS w' (tT.kept k lT);have q1:w.cell? ⟨g,o+1,none⟩=some (.int .i64 0):=by rw[p1,hn];rfl
  clear p1;clear hn hp tT;generalize cn (je p.nx) p.tk HS=FS at *;generalize p.len=PL at *;generalize p.tk=TK at *;have vb:g<w.heap.size+1:=by omega
  have QH:g<w.heap.size+1+1:=by omega
  have hg3:g≠w.heap.size:=by omega
  have hg4:g≠w.heap.size+1:=by omega
  have hg5:g≠w.heap.size+1+1:=by omega
  have XJ:g≠w.heap.size+2:=by omega
  go_enter Tryz.func79,Tryz.ntmps79
  go_wp2_with fail
  go_region
  all_goals
   obtain⟨W1,qR⟩:∃W1,W1=(((w.alloc (.cells #[.int .i64 (HP:Int),.int .i64 (HB:Int),.int .i64 (HL:Int),UV HS] 143)).alloc (.cells #[.int .i64 0,.int .i64 0,.int .i64 0,.int .u64 0] 143)).alloc (.cells #[.int .i64 ((HP:Int)+(PL:Int)),.int .i64 (HB:Int),.int .i64 (HL:Int),.int .u64 0] 143)).drew:=⟨_,rfl⟩;have J1:Hid (LW w W1 #[.int .i64 ((HP:Int)+(PL:Int)),.int .i64 (HB:Int),.int .i64 (HL:Int),.int .u64 0]):=by
    show LW _ _ _;rw[qR];exact⟨((((Kept.refl [] w).alloc _).alloc _).alloc _).drew,((ah.oy w _ _ _).alloc _).drew,(ah.EZ w _ _ _ _).drew⟩
   have D1:Hid (ah W1 w.heap.size #[.int .i64 (HP:Int),.int .i64 (HB:Int),.int .i64 (HL:Int),UV HS] 143):=by show ah _ _ _ _;rw[qR];exact(((ah.new w _ _).alloc _).alloc _).drew
   rw[<-qR];clear qR;have K1:=J1.out.k;obtain⟨d0,d1,d2,d3,dl⟩:=zx D1.out;obtain⟨g0,g1,g2,g3,gl⟩:=zx J1.out.c;obtain⟨f0,f1,f2,f3⟩:=BS J1.out.c;obtain⟨r0,r1,r2,r3,rl⟩:=zx J1.out.r;obtain⟨s0,s1,s2,s3⟩:=BS J1.out.r;have q1':=(K1.cell lg (o+1)).trans q1;have p2':=(K1.cell lg (o+2)).trans p2;have p3':=(K1.cell lg (o+3)).trans p3;have K1H:Hid (Kept [] w W1):=K1;clear K1 p0 q1 p2 p3;go_wp2_with fail
   go_region_law (go_simp;go_at_call 124;refine(QL.out _ (K1H.out.trans (by first | exact(Kept.refl [] _).drew | exact Kept.refl _ _))).mono ?_;rintro _ w5 ⟨rfl,k5⟩;have J5:Hid (LW _ w5 _):=J1.out.kept (Kept.trans (by first | exact(Kept.refl [] _).drew | exact Kept.refl _ _) k5);obtain⟨g0,g1,g2,g3,gl⟩:=zx J5.out.c;obtain⟨f0,f1,f2,f3⟩:=BS J5.out.c;obtain⟨r0,r1,r2,r3,rl⟩:=zx J5.out.r;obtain⟨s0,s1,s2,s3⟩:=BS J5.out.r)
   all_goals
    go_wp2
    have J6:LW w _ #[.int .i64 ((HP:Int)+(PL:Int)),.int .i64 (HB:Int),.int .i64 (HL:Int),UV FS]:=J5.out.set 3 (UV FS);obtain⟨ky,by4⟩:=J6.done;obtain⟨x0,x1,x2,x3,_⟩:=zx by4;refine bodyPost_ret (v:=.agg #[.int .i64 ((HP:Int)+(PL:Int)),.int .i64 (HB:Int),.int .i64 (HL:Int),UV FS]) (by simp[results,Tryz.results79,go_sem,x0,x1,x2,x3]) rfl ⟨?_,ky⟩;rw[e.out];unfold qq;simp only[Int.natCast_add]
 ·have p6:=hp.c6;have p7:=hp.c7;have ht:=Lo hn;have e:Hid (ma ⟨HP,HB,HL,HS⟩ p=⟨HP+p.len,HP+p.len-p.tail,HL+p.nl,p.la⟩):=by show ma _ _=_;unfold ma;rw[if_neg hn]
  have hni:((p.nl:Nat):Int)≠0:=by omega
  clear hn hp Lo;generalize p.len=PL at *;generalize p.nl=PN at *;generalize p.tail=PT at *;generalize p.la=LA at *;have VW:Hid (((HP+PL-PT:Nat):Int)=(HP:Int)+(PL:Int)-(PT:Int)):=by show _=_;omega
  have vb:g<w.heap.size+1:=by omega
  have QH:g<w.heap.size+1+1:=by omega
  have hg3:g≠w.heap.size:=by omega
  have hg4:g≠w.heap.size+1:=by omega
  have hg5:g≠w.heap.size+1+1:=by omega
  have XJ:g≠w.heap.size+2:=by omega
  go_enter Tryz.func79,Tryz.ntmps79
  go_wp2_with fail
  go_region
  all_goals
   obtain⟨W1,qR⟩:∃W1,W1=(((w.alloc (.cells #[.int .i64 (HP:Int),.int .i64 (HB:Int),.int .i64 (HL:Int),UV HS] 143)).alloc (.cells #[.int .i64 0,.int .i64 0,.int .i64 0,.int .u64 0] 143)).alloc (.cells #[.int .i64 ((HP:Int)+(PL:Int)),.int .i64 (HB:Int),.int .i64 ((HL:Int)+(PN:Int)),.int .u64 0] 143)).drew:=⟨_,rfl⟩;have J1:Hid (LW w W1 #[.int .i64 ((HP:Int)+(PL:Int)),.int .i64 (HB:Int),.int .i64 ((HL:Int)+(PN:Int)),.int .u64 0]):=by
    show LW _ _ _;rw[qR];exact⟨((((Kept.refl [] w).alloc _).alloc _).alloc _).drew,((ah.oy w _ _ _).alloc _).drew,(ah.EZ w _ _ _ _).drew⟩
   have D1:Hid (ah W1 w.heap.size #[.int .i64 (HP:Int),.int .i64 (HB:Int),.int .i64 (HL:Int),UV HS] 143):=by show ah _ _ _ _;rw[qR];exact(((ah.new w _ _).alloc _).alloc _).drew
   rw[<-qR];clear qR;have K1:=J1.out.k;obtain⟨d0,d1,d2,d3,dl⟩:=zx D1.out;obtain⟨g0,g1,g2,g3,gl⟩:=zx J1.out.c;obtain⟨f0,f1,f2,f3⟩:=BS J1.out.c;obtain⟨r0,r1,r2,r3,rl⟩:=zx J1.out.r;obtain⟨s0,s1,s2,s3⟩:=BS J1.out.r;have YU:=(K1.cell lg (o+1)).trans p1;have p6':=(K1.cell lg (o+6)).trans p6;have p7':=(K1.cell lg (o+7)).trans p7;clear K1 p0 p1 p6 p7;go_wp2_with fail
   go_region
   all_goals
    go_wp2
    have J6:LW w _ #[.int .i64 ((HP:Int)+(PL:Int)),.int .i64 ((HP:Int)+(PL:Int)-(PT:Int)),.int .i64 ((HL:Int)+(PN:Int)),.int .u64 0]:=J1.out.set 1 (.int .i64 ((HP:Int)+(PL:Int)-(PT:Int)));have J7:LW w _ #[.int .i64 ((HP:Int)+(PL:Int)),.int .i64 ((HP:Int)+(PL:Int)-(PT:Int)),.int .i64 ((HL:Int)+(PN:Int)),UV LA]:=J6.set 3 (UV LA);obtain⟨ky,by4⟩:=J7.done;obtain⟨x0,x1,x2,x3,_⟩:=zx by4.drew;refine bodyPost_ret (v:=.agg #[.int .i64 ((HP:Int)+(PL:Int)),.int .i64 ((HP:Int)+(PL:Int)-(PT:Int)),.int .i64 ((HL:Int)+(PN:Int)),UV LA]) (by simp[results,Tryz.results79,go_sem,x0,x1,x2,x3]) rfl ⟨?_,ky.drew⟩;rw[e.out];unfold qq;simp only[Int.natCast_add,VW.out]
theorem wI(w:World)(h:QX):Calls Tryz.prog 80 #[.agg #[.int .i64 (h.pos:Int),.int .i64 (h.cL:Int),.int .i64 (h.lines:Int),UV h.set]] w fun e w'=>e=.returned (.bool (decide (h.cL<h.pos)))/\Kept [] w w':=by
 have hk:Hid (∀o,Kept [] w (w.alloc o)):=fun o=>(Kept.refl [] w).alloc o;obtain⟨HP,HB,HL,HS⟩:=h;simp only[];by_cases hl:(HB:Int)<(HP:Int)
 ·have e:decide (HB<HP)=true:=decide_eq_true (by omega);rw[e];go_enter Tryz.func80,Tryz.ntmps80
  go_wp2
  go_ret;exact⟨rfl,hk.out _⟩
 ·have e:decide (HB<HP)=false:=decide_eq_false (by omega);rw[e];go_enter Tryz.func80,Tryz.ntmps80
  go_wp2
  go_ret;exact⟨rfl,hk.out _⟩
def gN(f:ByteArray):Nat:=(iF f (3+4*bt f 2)).toNat
def gA(f:ByteArray)(k:Nat):Nat:=(iF f (3+4*k)).toNat
def gB(f:ByteArray)(k:Nat):Nat:=(iF f (5+4*k)).toNat
def kp(f:ByteArray):Nat->List Nat
 | 0=>[]
 | k+1=>kp f k++[gA f k,gB f k]
def xV(f:ByteArray):Nat->List PI
 | 0=>[]
 | k+1=>xV f k++[fu (fm (xV f k) (gA f k)) (fm (xV f k) (gB f k))]
def gS(f:ByteArray)(j:Nat):Nat:=(iF f (5+4*bt f 2+2*j)).toNat
def jE(f:ByteArray):Nat->List Nat
 | 0=>[]
 | j+1=>jE f j++[gS f j]
def zy(f:ByteArray):PI:=dV (xV f (bt f 2)) (jE f (gN f))
theorem BU(f:ByteArray):∀k,(kp f k).length=2*k
 | 0=>rfl
 | k+1=>by show(kp f k++_).length=_;rw[List.length_append,BU f k];rfl
theorem FR(f:ByteArray):∀k,(xV f k).length=k
 | 0=>rfl
 | k+1=>by show(xV f k++_).length=_;rw[List.length_append,FR f k];rfl
theorem wJ(f:ByteArray):∀k,(jE f k).length=k
 | 0=>rfl
 | k+1=>by show(jE f k++_).length=_;rw[List.length_append,wJ f k];rfl
theorem ti(f:ByteArray):∀k x,x∈xV f k->eU x
 | 0,x,h=>nomatch h
 | k+1,x,h=>by
   rcases List.mem_append.1 h with h|h
   ·exact ti f k x h
   ·simp at h;subst h;exact oD (lj (ti f k) _)
theorem lD.a{f:ByteArray}(h:lD f){k:Nat}(hk:k<bt f 2):iF f (3+4*k)=(gA f k:Int)/\gA f k<256+k:=by
 have h1:=h.rules (2*k) (by omega);have e:3+2*(2*k)=3+4*k:=by omega
 have e2:2*k / 2=k:=by omega
 rw[e,e2]at h1;unfold gA;omega
theorem lD.b{f:ByteArray}(h:lD f){k:Nat}(hk:k<bt f 2):iF f (5+4*k)=(gB f k:Int)/\gB f k<256+k:=by
 have h1:=h.rules (2*k+1) (by omega);have e:3+2*(2*k+1)=5+4*k:=by omega
 have e2:(2*k+1) / 2=k:=by omega
 rw[e,e2]at h1;unfold gB;omega
theorem lD.n{f:ByteArray}(h:lD f):iF f (3+4*bt f 2)=(gN f:Int)/\gN f<=1000/\f.size=5+4*bt f 2+2*gN f:=by
 have h1:=h.n0;have h2:=h.n1;have h3:=h.size;unfold gN;omega
theorem lD.s{f:ByteArray}(h:lD f){j:Nat}(hj:j<gN f):iF f (5+4*bt f 2+2*j)=(gS f j:Int)/\gS f j<256+bt f 2:=by
 obtain⟨n1,n2,n3⟩:=h.n;have h1:=h.syms j (by omega);have h2:0<=iF f (5+4*bt f 2+2*j):=by
  unfold iF;rw[if_pos (by omega)];omega
 unfold gS;omega
theorem lD.top{f:ByteArray}(h:lD f):∀j,j<=gN f->∀s,s∈jE f j->s<256+bt f 2
 | 0,_,s,hs=>nomatch hs
 | j+1,hj,s,hs=>by
   rcases List.mem_append.1 hs with hs|hs
   ·exact h.top j (by omega) s hs
   ·simp at hs;subst hs;exact(h.s (by omega)).2
structure G2 (w:World)(b B n:Nat)(rl:List Nat)(ps:List PI)(rv pv:Value):Prop where
 aD:ah w b #[.int .i64 71,.int .i64 (n:Int),rv,.slice none 0 0,pv] 71
 lt:b<B
 up:B<=w.heap.size
 rules:w.ownsRow B 3 1 rv rl.length (aF rl)
 pieces:w.ownsRow B 122 6 pv ps.length (gG ps)
theorem G2.kept{w w':World}{b B n:Nat}{rl:List Nat}{ps:List PI}{rv pv:Value}(h:G2 w b B n rl ps rv pv)(k:Kept [] w w'):G2 w' b B n rl ps rv pv:=
 ⟨h.aD.kept k (by simp),h.lt,Nat.le_trans h.up k.size,aQ (S:=[]) h.rules k (fun _ _=>by simp),aQ (S:=[]) h.pieces k (fun _ _=>by simp)⟩
theorem G2.all{w:World}{b B n:Nat}{rl:List Nat}{ps:List PI}{rv pv:Value}(h:G2 w b B n rl ps rv pv)(hs:∀x,x∈ps->eU x):GM w b B w.heap.size 71 n rl [] ps rv (.slice none 0 0) pv:=
 ⟨h.aD,h.lt,h.up,h.rules,fun g hg=>(h.rules.lt g hg).2,World.ownsRow_nil _ _ _ 1,h.pieces,hs⟩
section
variable {w0 w1:World}{b B n:Nat}{rl:List Nat}{ps:List PI}{rv pv:Value}
theorem G2.PY(h:G2 w0 b B n rl ps rv pv)(g:w0.grownBy w1 rv.ownBlock){v':Value}{x y:Nat}(aG:w1.ownsRow B 3 1 v' (rl.length+2) (aF rl++[.int .i64 (x:Int),.int .i64 (y:Int)])):
 w1.cell? ⟨b,2,none⟩=some rv/\w1.frozen? ⟨b,2,none⟩=false/\b<w1.heap.size/\G2 (w1.setCell ⟨b,2,none⟩ v') b B n (rl++[x,y]) ps v' pv /\
 (∀wa,Kept [] wa w0->wa.heap.size<=b->Kept [] wa (w1.setCell ⟨b,2,none⟩ v')):=by
 have nd:∀k,k<B->some k≠rv.ownBlock:=fun k hk hc=>by have:=(h.rules.lt k hc.symm).1;omega
 have hb:ah w1 b #[.int .i64 71,.int .i64 (n:Int),rv,.slice none 0 0,pv] 71:=(g.block b h.aD.lt (nd b h.lt)).trans h.aD;have hp:w1.ownsRow B 122 6 pv ps.length (gG ps):=World.ownsRow.kept h.pieces g (pV h.pieces h.rules (by decide));refine⟨hb.cell 2,hb.frozen 2,hb.lt,⟨hb.set 2 v',h.lt,by have:=g.size;have:=h.up;simp[World.setCell];omega,?_,cB hp h.lt _ _⟩,?_⟩
 ·have e:aF (rl++[x,y])=aF rl++[.int .i64 (x:Int),.int .i64 (y:Int)]:=by simp[aF]
  rw[e,List.length_append];exact cB aG h.lt _ _
 ·intro wa ka hwb;refine⟨g.os.trans ka.os,g.tape.trans ka.tape,g.output.trans ka.output,by simpa [World.setCell] using Nat.le_trans ka.size g.size,fun i hi _=>?_⟩;have bO:=h.lt;rw[Below.heap_setCell _ _ _ _ (by rintro rfl;omega)];exact(g.block i (Nat.lt_of_lt_of_le hi ka.size) (nd i (by omega))).trans (ka.block i hi (by simp))
theorem G2.LI(h:G2 w0 b B n rl ps rv pv)(g:w0.grownBy w1 pv.ownBlock){v':Value}{x:PI}(aG:w1.ownsRow B 122 6 v' (ps.length+1) (gG ps++x.cells)):
 w1.cell? ⟨b,4,none⟩=some pv/\w1.frozen? ⟨b,4,none⟩=false/\b<w1.heap.size/\G2 (w1.setCell ⟨b,4,none⟩ v') b B n rl (ps++[x]) rv v' /\
 (∀wa,Kept [] wa w0->wa.heap.size<=b->Kept [] wa (w1.setCell ⟨b,4,none⟩ v')):=by
 have nd:∀k,k<B->some k≠pv.ownBlock:=fun k hk hc=>by have:=(h.pieces.lt k hc.symm).1;omega
 have hb:ah w1 b #[.int .i64 71,.int .i64 (n:Int),rv,.slice none 0 0,pv] 71:=(g.block b h.aD.lt (nd b h.lt)).trans h.aD;have hr:w1.ownsRow B 3 1 rv rl.length (aF rl):=World.ownsRow.kept h.rules g (pV h.rules h.pieces (by decide));refine⟨hb.cell 4,hb.frozen 4,hb.lt,⟨hb.set 4 v',h.lt,by have:=g.size;have:=h.up;simp[World.setCell];omega,cB hr h.lt _ _,?_⟩,?_⟩
 ·rw[FD,List.length_append];exact cB aG h.lt _ _
 ·intro wa ka hwb;refine⟨g.os.trans ka.os,g.tape.trans ka.tape,g.output.trans ka.output,by simpa [World.setCell] using Nat.le_trans ka.size g.size,fun i hi _=>?_⟩;have bO:=h.lt;rw[Below.heap_setCell _ _ _ _ (by rintro rfl;omega)];exact(g.block i (Nat.lt_of_lt_of_le hi ka.size) (nd i (by omega))).trans (ka.block i hi (by simp))
end
theorem PZ:(Tryz.prog.info? 122).map (fun i=>(i.zero,i.size,i.bytes)) =
 some (some (.agg #[.int .i64 0,.int .i64 0,.int .i64 0,.slice none 0 0,.slice none 0 0,.int .i64 0]),6,80):=by kernel_rfl
structure jF (f:ByteArray)(w w':World)(e:Ending):Prop where
 kept:Kept [] w w'
 low:∀b,e=.returned (.tuple #[.pointer (some ⟨b,0,none⟩),.int .i64 0])->w.heap.size<=b
 out:(∃n r b B C tv,By f n r/\GM w' b B C 90 n [] (aU r.out) [] (.slice none 0 0) tv (.slice none 0 0)/\e=.returned (.tuple #[.pointer (some ⟨b,0,none⟩),.int .i64 0])) \/
  (Zn f/\¬lD f/\e=.returned (.tuple #[.pointer none,.int .i64 4])) \/
  (Zn f/\lD f/\1099511627776<(zy f).aV/\e=.returned (.tuple #[.pointer none,.int .i64 5])) \/
  (Zn f/\lD f/\(zy f).aV<=1099511627776/\∃b B C rv tv pv,GM w' b B C 71 (gN f) (kp f (bt f 2)) (jE f (gN f)) (xV f (bt f 2)) rv tv pv/\e=.returned (.tuple #[.pointer (some ⟨b,0,none⟩),.int .i64 0]))
theorem By.size{f:ByteArray}{n:Nat}{r:ZB}(h:By f n r):r.out.size<=20000000:=by
 have h1:=h.inv.out;have h2:=h.inv.p;have h3:=h.inv.pb;have h4:=h.file.2.1;have h5:(f.extract 3 f.size).size=f.size-3:=by simp
 rw[h5]at h3;omega
set_option maxHeartbeats 8000000 in
theorem BV(f:ByteArray)(hf:f.size<=maxLen)(w:World):
 Calls Tryz.prog 61 #[.string f] w fun e w'=>jF f w w' e:=by
 have hc:Hid (Calls _ _ _ w _):=Ln f hf w;have D8:Hid (∀w',Calls _ _ _ w' _):=fun w'=>Ll f hf w';obtain⟨i0,kQ,jh,dP,dB⟩:=info_parts Ft;obtain⟨j0,Vp,XB,DA,E8⟩:=info_parts PZ;go_enter Tryz.func61,Tryz.ntmps61
 go_wp2_with fail
 refine hc.out.mono ?_;rintro e w1 kj;have nL:Hid (Kept [] w w1):=kj.kept;rcases kj.two with⟨kJ,rfl⟩|⟨n,r,ov,tv0,hz,hm,rfl⟩
 ·have ZF:Hid (Zn f):=kJ;clear kJ kj hc;unfold wD;go_wp2_with fail
  refine(D8.out _).mono ?_;rintro e w2 ⟨k2,ho⟩;have gH:Hid (Kept [] w w2):=nL.out.trans k2;clear D8 k2;rcases ho with⟨hg,rfl⟩|⟨hg,rfl⟩
  ·have N3:Hid (lD f):=hg;have hsz4:=hg.most;have h2i:(2:Int)<(f.size:Int):=by have:=hg.SK;omega
   have h2n:2<f.size:=by omega
   have hr0:(f[2]'h2n).toNat=bt f 2:=(nh h2n).symm;obtain⟨gn1,gn2,gn3⟩:=hg.n;obtain⟨r,hr⟩:∃r,r=bt f 2:=⟨_,rfl⟩;have YG:(f[2]'h2n).toNat=r:=hr0.trans hr.symm;have hr100:r<=100:=by rw[hr];exact hg.r
   have ug:Hid (r=bt f 2):=hr;have qU:Hid (∀i,i<=100000->∀w,Calls _ _ _ w _):=fun i hi w=>Bk f (by omega) i hi w;rw[gn1];obtain⟨n,hn⟩:∃n,n=gN f:=⟨_,rfl⟩;rw[<-hn]at gn2 gn3 ⊢;have nP:Hid (n=gN f):=hn;have ZG:Hid (G2 (w2.alloc (.cells #[.int .i64 71,.int .i64 (n:Int),.slice none 0 0,.slice none 0 0,.slice none 0 0] 71)) w2.heap.size (w2.heap.size+1) n (kp f 0) (xV f 0) (.slice none 0 0) (.slice none 0 0)):=
    ⟨ah.new w2 _ _,by omega,by simp,World.ownsRow_nil _ _ _ 1,World.ownsRow_nil _ _ _ 6⟩
   have LJ:Hid (Kept [] w2 (w2.alloc (.cells #[.int .i64 71,.int .i64 (n:Int),.slice none 0 0,.slice none 0 0,.slice none 0 0] 71))):=(Kept.refl [] w2).alloc _;have gsz:(f.size:Int)=5+4*(r:Int)+2*(n:Int):=by rw[gn3,hr];omega
   clear hg hr hn gn1 gn3 hr0;go_wp2_with fail
   go_loopw [11,12,13,14,15,16] (fun iv _ _ _ _ _ wr=>∃(k:Nat) (rv pv:Value),iv=.int .i64 (k:Int)/\k<=r/\G2 wr w2.heap.size (w2.heap.size+1) n (kp f k) (xV f k) rv pv/\Kept [] w2 wr) (fun iv _ _ _ _ _ _=>((r:Int)-intOf iv).toNat)
   case atStart=>exact⟨0,_,_,rfl,Nat.zero_le _,ZG.out,LJ.out⟩
   case round=>
    obtain⟨k,rv,pv,rfl,hk,hG,fG⟩:=hrel;have qO:Hid (G2 _ _ _ _ _ _ _ _):=hG;have dj:Hid (Kept _ _ _):=fG;by_cases bO:(k:Int)<(r:Int)
    ·have hkr:k<bt f 2:=by rw[<-ug.out];omega
     obtain⟨a1,a2⟩:=N3.out.a hkr;obtain⟨b1,b2⟩:=N3.out.b hkr;have YB:=qU.out (3+4*k) (by omega);have N2:=qU.out (5+4*k) (by omega);have ea:((3+4*k:Nat):Int)=3+4*(k:Int):=by omega
     have eb:((5+4*k:Nat):Int)=5+4*(k:Int):=by omega
     rw[ea,a1]at YB;rw[eb,b1]at N2;have YB:Hid (∀w,Calls _ _ _ w _):=YB;have N2:Hid (∀w,Calls _ _ _ w _):=N2;have Wz:Hid (xV f (k+1)=xV f k++[fu (fm (xV f k) (gA f k)) (fm (xV f k) (gB f k))]):=rfl;have hrs:Hid (kp f (k+1)=kp f k++[gA f k,gB f k]):=rfl;have iZ:=ti f k;have hlp:=FR f k;have hlr:=BU f k;have hsA:Hid (∀w' b rl Sv ,G2 w' b (b+1) n rl (xV f k) Sv pv->Calls _ _ _ w' _):=fun w' b rl Sv h=>xO h.aD h.pieces (gA f k) (by rw[hlp];exact a2) (by omega);have XF:Hid (∀w' b rl Sv ,G2 w' b (b+1) n rl (xV f k) Sv pv->Calls _ _ _ w' _):=fun w' b rl Sv h=>xO h.aD h.pieces (gB f k) (by rw[hlp];exact b2) (by omega);have uc:Hid (∀w',Calls _ _ _ w' _):=fun w'=>Bp (fm (xV f k) (gA f k)) (fm (xV f k) (gB f k)) (lj iZ _) (lj iZ _) w';clear a1 b1 ea eb iZ hkr qU ZG LJ;generalize fu (fm (xV f k) (gA f k)) (fm (xV f k) (gB f k))=J at *;generalize fm (xV f k) (gA f k)=SA at *;generalize fm (xV f k) (gB f k)=SB at *;generalize gA f k=A at *;generalize gB f k=Bv at *;obtain⟨P,hP⟩:∃P,P=xV f k:=⟨_,rfl⟩;obtain⟨R,hR⟩:∃R,R=kp f k:=⟨_,rfl⟩;rw[<-hP]at hlp hG qO Wz hsA XF;rw[<-hR]at hlr hG qO hrs;have hPb:P.length<=1000:=by omega
     have hRb:R.length<=1000:=by omega
     clear hP hR hlp hlr hG fG;obtain⟨J1,J2,J3⟩:=J;obtain⟨A1,A2,A3⟩:=SA;obtain⟨B1,B2,B3⟩:=SB;unfold PI.val PI.arr at uc;unfold PI.val PI.arr at hsA;unfold PI.val PI.arr at XF;simp only[]at uc hsA XF;go_wp2_with fail
     refine(YB.out _).mono ?_;rintro e w3 ⟨rfl,k3⟩;have Y2:Hid (Kept _ _ _):=k3;clear k3 YB;go_wp2_with fail
     refine(N2.out _).mono ?_;rintro e w4 ⟨rfl,k4⟩;have k4':Kept [] wr w4:=Y2.out.trans k4;have h4:=qO.out.kept k4';have kH:Hid (∀o,Kept [] wr (w4.alloc o)):=fun o=>k4'.alloc o;have c2:w4.cell? ⟨w2.heap.size,2,none⟩=some rv:=h4.aD.cell 2;have pU:w2.heap.size<w4.heap.size:=h4.aD.lt;have QT:w2.heap.size+1<=w4.heap.size:=pU;clear k4 k4' h4 Y2 N2;go_wp2_with (at_builtin;refine wpList_append_own _ rfl (.tmp 83) (.tmp 86) 68 rfl (w2.heap.size+1) 3 i0 _ 1 8 Tryz.underlying68 kQ jh dP dB rfl (by decide) rv R.length (aF R) rfl ?own ⟨w4.heap.size,0,none⟩ 2 2 [.int .i64 (A:Int),.int .i64 (Bv:Int)] rfl rfl ?c1 ?c2 ?b1 ?b2 ?b3 ?k)
     case own=>exact(qO.out.kept (kH.out _)).rules
     case c1=>exact bM _ _ _ _ rfl
     case c2=>simp[Value.oneCell']
     case b1=>unfold maxLen;omega
     case b2=>omega
     case b3=>simp;omega
     case k=>
      intro v5 w5 aG ay _;obtain⟨e2,f2,b2',kf,DG⟩:=G2.PY (x:=A) (y:=Bv) (qO.out.kept (kH.out _)) ay aG;have Gw:Hid (G2 _ _ _ _ _ _ _ _):=kf;have QY:Hid (Kept [] w2 _):=DG w2 (dj.out.trans (kH.out _)) (Nat.le_refl _);obtain⟨q1,q2,rfl⟩:=qm aG;obtain⟨X,hX⟩:∃X,X=w5.setCell ⟨w2.heap.size,2,none⟩ (.slice q1 (R.length+2) q2):=⟨_,rfl⟩;have hXk:Hid (G2 X w2.heap.size (w2.heap.size+1) n (R++[A,Bv]) P (.slice q1 (R.length+2) q2) pv):=by show G2 _ _ _ _ _ _ _ _;rw[hX];exact kf
      have hXK:Hid (Kept [] w2 X):=by show Kept _ _ _;rw[hX];exact DG w2 (dj.out.trans (kH.out _)) (Nat.le_refl _)
      have hXe:Hid (_=_):=hX.symm;clear kf DG aG ay Gw QY hX qO c2 kH;go_wp2_with fail
      rw[hXe.out];clear e2 f2 hXe;refine(hsA.out _ w2.heap.size _ _ hXk.out).mono ?_;rintro e w6 ⟨rfl,k6⟩;have k6H:Hid (∀o,Kept [] X (w6.alloc o)):=fun o=>k6.alloc o;clear k6 hsA;go_wp2_with fail
      refine(XF.out _ w2.heap.size _ _ (hXk.out.kept (k6H.out _))).mono ?_;rintro e w7 ⟨rfl,k7⟩;have hA:ah w7 w6.heap.size #[.int .i64 (A1:Int),.int .i64 (A2:Int),.int .i64 (A3:Int),.slice none 0 0,.slice none 0 0,.int .i64 0] 122:=(ah.new w6 _ _).kept k7 (by simp);have d0:w7.cell? ⟨w6.heap.size,0,none⟩=some (.int .i64 (A1:Int)):=hA.cell 0;have d1:w7.cell? ⟨w6.heap.size,1,none⟩=some (.int .i64 (A2:Int)):=hA.cell 1;have d2:w7.cell? ⟨w6.heap.size,2,none⟩=some (.int .i64 (A3:Int)):=hA.cell 2;have d3:w7.cell? ⟨w6.heap.size,3,none⟩=some (.slice none 0 0):=hA.cell 3;have d4:w7.cell? ⟨w6.heap.size,4,none⟩=some (.slice none 0 0):=hA.cell 4;have d5:w7.cell? ⟨w6.heap.size,5,none⟩=some (.int .i64 0):=hA.cell 5;have hA1:w6.heap.size<w7.heap.size:=hA.lt;have k7H:Hid (∀o,Kept [] X (w7.alloc o)):=fun o=>((k6H.out _).trans k7).alloc o;clear k7 hA k6H XF;go_wp2_with fail
      refine(uc.out _).mono ?_;rintro e w8 ⟨rfl,k8⟩;have k8':=(k7H.out _).trans k8;have h8:=hXk.out.kept k8';have c4:w8.cell? ⟨w2.heap.size,4,none⟩=some pv:=h8.aD.cell 4;have hbw8:w2.heap.size<w8.heap.size:=h8.aD.lt;have WA:Hid (∀o1 o2,Kept [] X ((w8.alloc o1).alloc o2).drew):=fun o1 o2=>((k8'.alloc o1).alloc o2).drew;clear k8 k8' k7H uc d0 d1 d2 d3 d4 d5 h8 pU QT;go_wp2_with fail
      have own:∀o1 o2,((w8.alloc o1).alloc o2).ownsRow (w2.heap.size+1) 122 6 pv P.length (gG P):=fun o1 o2=>(hXk.out.kept (WA.out o1 o2)).pieces;have up:∀o1 o2,w2.heap.size+1<=((w8.alloc o1).alloc o2).heap.size:=fun o1 o2=>(hXk.out.kept (WA.out o1 o2)).up;have mb:P.length+1<=maxLen:=by unfold maxLen;omega
      go_region_law (refine cF rfl (.tmp 103) (.tmp 105) 69 rfl 122 j0 _ 6 80 Tryz.underlying69 Vp XB DA E8 rfl (by decide) (w2.heap.size+1) pv P.length (gG P) (by simp[Act.eval,Act.put]) (by exact own _ _) ⟨w8.heap.size+1,0,none⟩ 1 1 [.int .i64 (J1:Int),.int .i64 (J2:Int),.int .i64 (J3:Int),.slice none 0 0,.slice none 0 0,.int .i64 0] (by simp[Act.eval,Act.put]) rfl (by exact bM _ _ _ _ (by simp)) (by simp[Value.oneCell']) mb (by omega) (by exact up _ _) ?_;intro v' w9 aG ay;obtain⟨g,cap,rfl⟩:=aO aG (by omega);obtain⟨e4,f4,b4,kf,DG⟩:=G2.LI (x:=⟨J1,J2,J3⟩) (hXk.out.kept (WA.out _ _)) ay aG)
      all_goals
       have Gw:Hid (G2 _ _ _ _ _ _ _ _):=kf;have QY:Hid (Kept [] w2 _):=DG w2 (hXK.out.trans (WA.out _ _)) (Nat.le_refl _);clear kf DG aG ay own up;go_wp2
       refine⟨⟨k+1,_,_,by go_num,by omega,by rw[Wz.out,hrs.out];exact Gw.out,QY.out⟩,?_⟩;simp only[intOf];omega
    ·have JI:k=bt f 2:=by have:=ug.out;omega
     have Vt:=hG.all (ti f k);obtain⟨C,hC⟩:∃C,C=wr.heap.size:=⟨_,rfl⟩;rw[<-hC]at Vt;have hCw:C<=wr.heap.size:=by omega
     obtain⟨P,hP⟩:∃P,P=xV f (bt f 2):=⟨_,rfl⟩;obtain⟨R,hR⟩:∃R,R=kp f (bt f 2):=⟨_,rfl⟩;rw[JI,<-hP,<-hR]at Vt;have hM:Hid (GM wr w2.heap.size (w2.heap.size+1) C 71 n R (jE f 0) P rv (.slice none 0 0) pv):=Vt;have hPl:P.length=r:=by rw[hP,FR];exact ug.out.symm
     have hPb:P.length<=1000:=by omega
     have hPlH:Hid (P.length=r):=hPl;have xz:Hid (P=_):=hP;have Ek:Hid (R=_):=hR;have XM:Hid (Kept [] w2 wr):=fG;clear JI Vt hC hP hR hPl hG qO fG dj ZG LJ;go_wp2_with fail
     go_loopw [17,18] (fun iv _ wq=>∃(j:Nat) (tv:Value),iv=.int .i64 (j:Int)/\j<=n/\GM wq w2.heap.size (w2.heap.size+1) C 71 n R (jE f j) P rv tv pv/\Kept [] w2 wq/\C<=wq.heap.size) (fun iv _ _=>((n:Int)-intOf iv).toNat)
     case atStart=>exact⟨0,_,rfl,Nat.zero_le _,hM.out,XM.out,hCw⟩
     case round=>
      obtain⟨j,tv,rfl,hj,hG,hkq,hCq⟩:=hrel;have qO:Hid (GM _ _ _ _ _ _ _ _ _ _ _ _):=hG;have hkqH:Hid (Kept _ _ _):=hkq;clear hM XM hCw;by_cases uc:(j:Int)<(n:Int)
      ·obtain⟨s1,s2⟩:=N3.out.s (j:=j) (by rw[<-nP.out];omega);have sI:=qU.out (5+4*bt f 2+2*j) (by have:=ug.out;omega);rw[s1]at sI;have es:((5+4*bt f 2+2*j:Nat):Int)=5+4*(r:Int)+2*(j:Int):=by have:=ug.out;omega
       rw[es]at sI;have sI:Hid (∀w,Calls _ _ _ w _):=sI;have oz:Hid (jE f (j+1)=jE f j++[gS f j]):=rfl;have hTl:=wJ f j;have hTb:(jE f j).length<=1000:=by omega
       clear s1 s2 es hTl;generalize gS f j=x at *;obtain⟨T,hT⟩:∃T,T=jE f j:=⟨_,rfl⟩;rw[<-hT]at hTb hG qO oz;clear hT hG hkq;go_wp2_with fail
       refine(sI.out _).mono ?_;rintro e w3 ⟨rfl,k3⟩;have h3:=qO.out.kept k3;have c3:w3.cell? ⟨w2.heap.size,3,none⟩=some tv:=h3.aD.cell 3;have pU:w2.heap.size<w3.heap.size:=h3.aD.lt;have hC3:C<=w3.heap.size:=Nat.le_trans hCq k3.size;have kH:Hid (∀o,Kept [] _ (w3.alloc o)):=fun o=>k3.alloc o;clear k3 h3 sI;go_wp2_with (at_builtin;refine wpList_append_own _ rfl (.tmp 126) (.tmp 128) 68 rfl C 3 i0 _ 1 8 Tryz.underlying68 kQ jh dP dB rfl (by decide) tv T.length (aF T) rfl ?own ⟨w3.heap.size,0,none⟩ 1 1 [.int .i64 (x:Int)] rfl rfl ?c1 ?c2 ?b1 ?b2 ?b3 ?kk)
       case own=>exact(qO.out.kept (kH.out _)).top
       case c1=>exact bM _ _ _ _ rfl
       case c2=>simp[Value.oneCell']
       case b1=>unfold maxLen;omega
       case b2=>omega
       case b3=>simp;omega
       case kk=>
        intro v5 w5 aG ay _;obtain⟨e3,f3,b3,kf,Pb,DG⟩:=GM.M7 (x:=x) (qO.out.kept (kH.out _)) ay aG;have Gw:Hid (GM _ _ _ _ _ _ _ _ _ _ _ _):=kf;have QY:Hid (Kept [] w2 _):=DG w2 (hkqH.out.trans (kH.out _)) (Nat.le_refl _);have hC5:C<=w5.heap.size:=by have:=ay.size;simp at this;omega
        obtain⟨q1,q2,rfl⟩:=qm aG;clear kf Pb DG aG ay kH;go_wp2
        refine⟨⟨j+1,_,by go_num,by omega,by rw[oz.out];exact Gw.out,QY.out,by simpa [World.setCell] using hC5⟩,?_⟩;simp only[intOf];omega
      ·have hje:j=gN f:=by have:=nP.out;omega
       have GD:Hid (Calls _ _ _ _ _):=Pm hG (fun s hs=>by rw[hPlH.out,ug.out];exact N3.out.top j (by omega) s hs) hPb (by rw[wJ];omega);obtain⟨T,hT⟩:∃T,T=jE f (gN f):=⟨_,rfl⟩;rw[hje,<-hT]at hG qO GD;have hDe:zy f=dV P T:=by unfold zy;rw[xz.out,hT]
       have pq:Hid (T=_):=hT;have CG:Hid (Kept [] w _):=gH.out.trans hkq;generalize hDg:dV P T=D at *;obtain⟨D1,D2,D3⟩:=D;have hDH:Hid (zy f=_):=hDe;unfold PI.val PI.arr at GD;simp only[]at GD;have wK:Hid ((zy f).aV=D1):=by show _=_;rw[hDe]
       clear hje hT hDe hDg hG hkq qU;by_cases rq:(1099511627776:Int)<(D1:Int)
       ·have hb:Hid (1099511627776<(zy f).aV):=by show _<_;rw[wK.out];omega
        go_wp2_with fail
        refine GD.out.mono ?_;rintro e w9 ⟨rfl,k9⟩;have hk9:Hid (∀o,Kept [] w (w9.alloc o)):=fun o=>(CG.out.trans k9).alloc o;clear k9 GD;go_wp2
        go_ret2;exact⟨hk9.out _,fun b h=>by simp at h,Or.inr (Or.inr (Or.inl ⟨ZF.out,N3.out,hb.out,rfl⟩))⟩
       ·have hb:Hid ((zy f).aV<=1099511627776):=by show _<=_;rw[wK.out];omega
        go_wp2_with fail
        refine GD.out.mono ?_;rintro e w9 ⟨rfl,k9⟩;have hk9:Hid (∀o,Kept [] w (w9.alloc o)):=fun o=>(CG.out.trans k9).alloc o;have hG9:Hid (∀o,GM (w9.alloc o) w2.heap.size (w2.heap.size+1) C 71 (gN f) (kp f (bt f 2)) (jE f (gN f)) (xV f (bt f 2)) rv tv pv):=fun o=>by
         have:=(qO.out.kept k9).kept ((Kept.refl [] w9).alloc o);rwa [pq.out,xz.out,Ek.out,nP.out]at this
        clear k9 GD;go_wp2
        go_ret2;exact⟨hk9.out _,fun b h=>by simp at h;have:=gH.out.size;omega,Or.inr (Or.inr (Or.inr ⟨ZF.out,N3.out,hb.out,_,_,_,_,_,_,hG9.out _,rfl⟩))⟩
  ·have N3:Hid (¬lD f):=hg;clear hg;go_wp2
   go_ret2;exact⟨gH.out,fun b h=>by simp at h,Or.inr (Or.inl ⟨ZF.out,N3.out,rfl⟩)⟩
 ·obtain⟨oa,oc,rfl⟩:=qm hm.out;have dd:=hz.size;have Vd:Hid (By f n r):=hz;have b8:Hid (w1.ownsRow w.heap.size 5 1 (.slice oa r.out.size oc) r.out.size (Lib.strCells r.out)):=hm.out;have nd:Hid (∀g,(Value.slice oa r.out.size oc).ownBlock=some g->g<w1.heap.size):=fun g hg=>(hm.out.lt g hg).2;have sI:Hid (∀i,i<r.out.size->_=_):=fun i hi=>Bz r.out i hi;have AK:Hid ((aU r.out).length=r.out.size):=iR _;have ZG:Hid (GM (w1.alloc (.cells #[.int .i64 90,.int .i64 (n:Int),.slice none 0 0,.slice none 0 0,.slice none 0 0] 71)) w1.heap.size (w1.heap.size+1) (w1.heap.size+1) 90 n [] ((aU r.out).take 0) [] (.slice none 0 0) (.slice none 0 0) (.slice none 0 0)):=
   ⟨ah.new w1 _ _,by omega,Nat.le_refl _,World.ownsRow_nil _ _ _ 1,(fun g hg=>nomatch hg),World.ownsRow_nil _ _ _ 1,World.ownsRow_nil _ _ _ 6,(fun x hx=>nomatch hx)⟩
  have LJ:Hid (Kept [] w1 (w1.alloc (.cells #[.int .i64 90,.int .i64 (n:Int),.slice none 0 0,.slice none 0 0,.slice none 0 0] 71))):=(Kept.refl [] w1).alloc _;clear kj hc hm hz D8;generalize hbs:aU r.out=bs at *;have hbsH:Hid (_=_):=hbs;clear hbs;generalize r.out.size=N at *;go_wp2_with fail
  go_loopw [8] (fun iv wr=>∃(k:Nat) (tv:Value),iv=.int .i64 (k:Int)/\k<=N/\GM wr w1.heap.size (w1.heap.size+1) (w1.heap.size+1) 90 n [] (bs.take k) [] (.slice none 0 0) tv (.slice none 0 0)/\Kept [] w1 wr) (fun iv _=>((N:Int)-intOf iv).toNat)
  case atStart=>exact⟨0,_,rfl,Nat.zero_le _,ZG.out,LJ.out⟩
  case round=>
   obtain⟨k,tv,rfl,hk,hG,fG⟩:=hrel;have qO:Hid (GM _ _ _ _ _ _ _ _ _ _ _ _):=hG;have dj:Hid (Kept _ _ _):=fG;by_cases bO:(k:Int)<(N:Int)
   ·have VF:=aQ (S:=[]) b8.out fG (fun _ _=>by simp);obtain⟨tg,cap,he⟩:=aO VF (by omega);cases he;obtain⟨x,hx⟩:∃x,x=bs.getD k 0:=⟨_,rfl⟩;have fI:wr.cell? ⟨tg,k,none⟩=some (.int .u8 (x:Int)):=by
     have:=VF.cells (g:=tg) rfl k _ (sI.out k (by omega));rwa [cK,<-hx]at this
    have hxb:x<256:=by
     rw[hx,List.getD];cases hq:bs[k]? with
     | none=>simp
     | some y=>
       have hy:=List.mem_of_getElem? hq;rw[<-hbsH.out]at hy;unfold aU at hy;obtain⟨z,_,rfl⟩:=List.mem_map.1 hy;exact z.toNat_lt
    have ew:IntKind.i64.wrap (x:Int)=(x:Int):=by rw[IntKind.wrap_i64];omega
    have oz:Hid (bs.take (k+1)=bs.take k++[x]):=by
     show _=_;have zt:k<bs.length:=by rw[AK.out];omega
     rw[List.take_add_one,List.getElem?_eq_getElem zt,hx,List.getD,List.getElem?_eq_getElem zt];rfl
    have hTb:(bs.take k).length<=20000000:=by rw[List.length_take];omega
    have htg:tg<wr.heap.size:=(VF.lt tg rfl).2;have c3:wr.cell? ⟨w1.heap.size,3,none⟩=some tv:=hG.aD.cell 3;have pU:w1.heap.size<wr.heap.size:=hG.aD.lt;have QT:w1.heap.size+1<=wr.heap.size:=pU;have kH:Hid (∀o,Kept [] wr (wr.alloc o).drew):=fun o=>((Kept.refl [] wr).alloc o).drew;obtain⟨T,hT⟩:∃T,T=bs.take k:=⟨_,rfl⟩;rw[<-hT]at hG hTb oz;have hGG:Hid (GM _ _ _ _ _ _ _ _ _ _ _ _):=hG;clear hT hx VF hG qO fG ZG LJ;go_wp2_with fail
    have own:∀o,(wr.alloc o).ownsRow (w1.heap.size+1) 3 1 tv T.length (aF T):=fun o=>(hGG.out.kept (kH.out o)).top;have up:∀o,w1.heap.size+1<=(wr.alloc o).heap.size:=fun o=>by simp;omega
    have mb:T.length+1<=maxLen:=by unfold maxLen;omega
    go_region_law (refine cF rfl (.tmp 40) (.tmp 46) 68 rfl 3 i0 _ 1 8 Tryz.underlying68 kQ jh dP dB rfl (by decide) (w1.heap.size+1) tv T.length (aF T) (by simp[Act.eval,Act.put]) (by exact own _) ⟨wr.heap.size,0,none⟩ 1 1 [.int .i64 (x:Int)] (by simp[Act.eval,Act.put]) rfl (by exact bM _ _ _ _ (by simp)) (by simp[Value.oneCell']) mb (by omega) (by exact up _) ?_;intro v' w4 aG ay;obtain⟨g,cap,rfl⟩:=aO aG (by omega);obtain⟨e2,f2,b2,kf,Pb,DG⟩:=GM.M7 (x:=x) (hGG.out.kept (kH.out _)) ay aG)
    all_goals
     have Gw:Hid (GM _ _ _ _ _ _ _ _ _ _ _ _):=kf;have QY:Hid (Kept [] w1 _):=DG w1 (dj.out.trans (kH.out _)) (Nat.le_refl _);clear kf Pb DG aG ay own up;go_wp2
     refine⟨⟨k+1,_,by go_num,by omega,by rw[oz.out];exact Gw.out,QY.out⟩,?_⟩;simp only[intOf];omega
   ·have JI:k=N:=by omega
    have aA:Hid (GM wr w1.heap.size (w1.heap.size+1) (w1.heap.size+1) 90 n [] bs [] (.slice none 0 0) tv (.slice none 0 0)):=by
     show GM _ _ _ _ _ _ _ _ _ _ _ _;have:bs.take k=bs:=by rw[JI,<-AK.out];exact List.take_length
     rwa [this]at hG
    have CG:Hid (Kept [] w wr):=nL.out.trans fG;clear hG qO JI fG dj ZG LJ;go_wp2
    go_ret2;exact⟨CG.out,fun b h=>by simp at h;have:=nL.out.size;omega,Or.inl ⟨n,r,_,_,_,tv,Vd.out,by rw[hbsH.out];exact aA.out,rfl⟩⟩
theorem tj(s:ByteArray):∀x,x∈aU s->x<256:=fun x hx=>by
 unfold aU at hx;obtain⟨z,_,rfl⟩:=List.mem_map.1 hx;exact z.toNat_lt
theorem BX{f:ByteArray}{q:Nat}(h:q+2<=f.size):iF f q=((bt f q+256*bt f (q+1):Nat):Int):=by unfold iF;rw[if_pos h];omega
theorem num2{f:ByteArray}{q:Nat}(h:q+2<=f.size):gJ f (q,false) 2=(bt f q+256*bt f (q+1),(q+2,false)):=by
 have e1:cw f (q,false)=(bt f q,(q+1,false)):=by unfold cw;rw[if_pos (by show q<_;omega)]
 have e2:cw f (q+1,false)=(bt f (q+1),(q+2,false)):=by unfold cw;rw[if_pos (by show q+1<_;omega)]
 simp only[gJ,e1,e2,Nat.zero_add,Nat.pow_zero,Nat.mul_one,Nat.pow_one];rw[Nat.mul_comm 256]
theorem To{f:ByteArray}{q:Nat}(h:¬q+2<=f.size):(gJ f (q,false) 2).2.2=true:=by
 show(cw f (cw f (q,false)).2).2.2=true;by_cases h1:q<f.size
 ·have e1:cw f (q,false)=(bt f q,(q+1,false)):=by unfold cw;rw[if_pos h1]
  rw[e1];unfold cw;rw[if_neg (by show ¬q+1<_;omega)]
 ·have e1:cw f (q,false)=(0,(q,true)):=by unfold cw;rw[if_neg h1]
  rw[e1];exact D4 rfl
def WB(f:ByteArray)(m q:Nat):Prop:=q+2<=f.size/\iF f q<=(m:Int)
theorem mE{f:ByteArray}{m q:Nat}(h:WB f m q):aX f 2 m (q,false)=((iF f q).toNat,(q+2,false)):=by
 obtain⟨h1,h2⟩:=h;rw[BX h1]at h2 ⊢;unfold aX;rw[num2 h1,if_neg (by simp only[];omega)];rfl
theorem oe{f:ByteArray}{m q:Nat}(h:(aX f 2 m (q,false)).2.2=false):WB f m q:=by
 by_cases h1:q+2<=f.size
 ·refine⟨h1,?_⟩;unfold aX at h;rw[num2 h1]at h;split at h
  ·cases h
  ·rename_i h2
   rw[BX h1];simp only[]at h2;omega
 ·unfold aX at h;split at h
  ·cases h
  ·rw[To h1]at h;cases h
theorem El{f:ByteArray}(h:3<=f.size)(h2:bt f 2<=100):ja f=(bt f 2,(3,false)):=by
 have e1:cw f (2,false)=(bt f 2,(3,false)):=by unfold cw;rw[if_pos (by show 2<_;omega)]
 unfold ja aX;simp only[gJ,e1,Nat.zero_add,Nat.pow_zero,Nat.mul_one];rw[if_neg (by omega)]
theorem II{f:ByteArray}(h:(ja f).2.2=false):3<=f.size/\bt f 2<=100:=by
 unfold ja aX at h;by_cases h1:3<=f.size
 ·have e1:cw f (2,false)=(bt f 2,(3,false)):=by unfold cw;rw[if_pos (by show 2<_;omega)]
  simp only[gJ,e1,Nat.zero_add,Nat.pow_zero,Nat.mul_one]at h;split at h
  ·cases h
  ·exact⟨h1,by omega⟩
 ·have e1:cw f (2,false)=(0,(2,true)):=by unfold cw;rw[if_neg (by show ¬ 2<_;omega)]
  simp only[gJ,e1]at h;split at h <;> cases h
def FT(f:ByteArray)(k:Nat):Prop:=WB f (255+k) (3+4*k)/\WB f (255+k) (5+4*k)
def Vu(f:ByteArray):Nat->List RU
 | 0=>[]
 | k+1=>Vu f k++[yM (Vu f k) (gA f k) (gB f k)]
theorem qs(f:ByteArray):∀k,(Vu f k).length=k
 | 0=>rfl
 | k+1=>by show(Vu f k++_).length=_;rw[List.length_append,qs f k];rfl
theorem Nh{f:ByteArray}:∀i,(∀k,k<i->FT f k)->qW f (3,false) i=(Vu f i,(3+4*i,false))
 | 0,_=>rfl
 | i+1,h=>by
   have ih:=Nh i (fun k hk=>h k (by omega));obtain⟨h1,h2⟩:=h i (by omega);have e1:=mE h1;have e2:=mE h2;have hq:3+4*i+2=5+4*i:=by omega
   rw[hq]at e1;simp only[qW,ih,e1,e2];rw[show 5+4*i+2=3+4*(i+1) by omega];rfl
theorem Ni{f:ByteArray}:∀i,(qW f (3,false) i).2.2=false->∀k,k<i->FT f k
 | 0,_,k,hk=>by omega
 | i+1,h,k,hk=>by
   have hi:(qW f (3,false) i).2.2=false:=by
    cases hx:(qW f (3,false) i).2.2 with
    | false=>rfl
    | true=>have:=Fv hx 1;rw[this]at h;cases h
   have ih:=Ni i hi;by_cases hki:k<i
   ·exact ih k hki
   ·have:k=i:=by omega
    subst this;have e:=Nh k ih;simp only[qW,e]at h;have ha:(aX f 2 (255+k) (3+4*k,false)).2.2=false:=by
     cases hx:(aX f 2 (255+k) (3+4*k,false)).2.2 with
     | false=>rfl
     | true=>have:=kh (f:=f) (n:=2) (m:=255+k) hx;rw[this]at h;cases h
    have h1:=oe ha;rw[mE h1]at h;have hq:3+4*k+2=5+4*k:=by omega
    simp only[hq]at h;exact⟨h1,oe h⟩
theorem Nj{f:ByteArray}{m q:Nat}:∀i,(∀k,k<i->WB f m (q+2*k))->(Ig f m (q,false) i).2=(q+2*i,false)/\(Ig f m (q,false) i).1=(List.range i).map (fun j=>(iF f (q+2*j)).toNat)
 | 0,_=>⟨rfl,rfl⟩
 | i+1,h=>by
   obtain⟨ih1,ih2⟩:=Nj i (fun k hk=>h k (by omega));have e:=mE (h i (by omega));constructor
   ·simp only[Ig,ih1,e];rfl
   ·simp only[Ig,ih1,ih2,e,List.range_succ,List.map_append];rfl
theorem Nk{f:ByteArray}{m q:Nat}:∀i,(Ig f m (q,false) i).2.2=false->∀k,k<i->WB f m (q+2*k)
 | 0,_,k,hk=>by omega
 | i+1,h,k,hk=>by
   have hi:(Ig f m (q,false) i).2.2=false:=by
    cases hx:(Ig f m (q,false) i).2.2 with
    | false=>rfl
    | true=>have:=zK hx 1;rw[this]at h;cases h
   have ih:=Nk i hi;by_cases hki:k<i
   ·exact ih k hki
   ·have:k=i:=by omega
    subst this;simp only[Ig,(Nj k ih).1]at h;exact oe h
theorem tl{f:ByteArray}{q:Nat}(h:0<=iF f q):q+2<=f.size:=by
 by_cases h1:q+2<=f.size
 ·exact h1
 ·have:=Wi.2 h1;omega
theorem lD.ZH{f:ByteArray}(h:lD f){k:Nat}(hk:k<bt f 2):FT f k:=by
 obtain⟨a1,a2⟩:=h.a hk;obtain⟨b1,b2⟩:=h.b hk;exact⟨⟨tl (by omega),by omega⟩,⟨tl (by omega),by omega⟩⟩
theorem lD.okSym{f:ByteArray}(h:lD f){j:Nat}(hj:j<gN f):WB f (255+bt f 2) (5+4*bt f 2+2*j):=by
 obtain⟨a1,a2⟩:=h.s hj;exact⟨tl (by omega),by omega⟩
theorem uG(f:ByteArray):∀j,jE f j=(List.range j).map (fun i=>(iF f (5+4*bt f 2+2*i)).toNat)
 | 0=>rfl
 | j+1=>by
   show jE f j++[gS f j]=_;rw[uG f j,List.range_succ,List.map_append];rfl
theorem lD.read{f:ByteArray}(h:lD f):ja f=(bt f 2,(3,false))/\Cz f=(Vu f (bt f 2),(3+4*bt f 2,false))/\CA f=(gN f,(5+4*bt f 2,false)) /\
 (CY f).2=(5+4*bt f 2+2*gN f,false)/\(CY f).1=jE f (gN f):=by
 have e1:=El (f:=f) (by have:=h.SK;omega) h.r;have e2:Cz f=(Vu f (bt f 2),(3+4*bt f 2,false)):=by
  unfold Cz;rw[e1];exact Nh _ (fun k hk=>h.ZH hk)
 obtain⟨n1,n2,n3⟩:=h.n;have e3:CA f=(gN f,(5+4*bt f 2,false)):=by
  unfold CA;rw[e2];have:=mE (f:=f) (m:=1000) (q:=3+4*bt f 2) ⟨tl (by omega),by omega⟩;rw[this,show 3+4*bt f 2+2=5+4*bt f 2 by omega];rfl
 obtain⟨s1,s2⟩:=Nj (f:=f) (m:=255+bt f 2) (q:=5+4*bt f 2) (gN f) (fun k hk=>h.okSym hk);refine⟨e1,e2,e3,?_,?_⟩
 ·unfold CY;rw[e1,e3];exact s1
 ·unfold CY;rw[e1,e3,uG];exact s2
theorem lD.ok{f:ByteArray}(h:lD f):kg f=true:=by
 obtain⟨e1,e2,e3,e4,e5⟩:=h.read;obtain⟨n1,n2,n3⟩:=h.n;unfold kg;rw[e4];simp only[Bool.not_false,Bool.true_and,decide_eq_true_eq];omega
theorem Tp{f:ByteArray}(hg:FA f)(h4:f.size<=4000)(h:kg f=true):lD f:=by
 have nG:∀b,b=true->kg f=false->False:=fun b _ h'=>by rw[h]at h';cases h'
 have b1:(ja f).2.2=false:=by
  cases hx:(ja f).2.2 with
  | false=>rfl
  | true=>exact(nG _ hx (Su (i:=0) (Nat.zero_le _) hx)).elim
 obtain⟨r1,r2⟩:=II b1;have e1:=El r1 r2;have b2:(Cz f).2.2=false:=by
  cases hx:(Cz f).2.2 with
  | false=>rfl
  | true=>exact(nG _ hx (St hx)).elim
 have hR:∀k,k<bt f 2->FT f k:=by
  unfold Cz at b2;rw[e1]at b2;exact Ni _ b2
 have e2:Cz f=(Vu f (bt f 2),(3+4*bt f 2,false)):=by
  unfold Cz;rw[e1];exact Nh _ hR
 have b3:(CA f).2.2=false:=by
  cases hx:(CA f).2.2 with
  | false=>rfl
  | true=>exact(nG _ hx (Ld hx)).elim
 have hN:WB f 1000 (3+4*bt f 2):=by
  unfold CA at b3;rw[e2]at b3;exact oe b3
 have e3:CA f=(gN f,(5+4*bt f 2,false)):=by
  unfold CA;rw[e2];rw[mE hN,show 3+4*bt f 2+2=5+4*bt f 2 by omega];rfl
 have b4:(CY f).2.2=false:=by
  cases hx:(CY f).2.2 with
  | false=>rfl
  | true=>exact(nG _ hx (Lc hx)).elim
 have hS:∀k,k<gN f->WB f (255+bt f 2) (5+4*bt f 2+2*k):=by
  unfold CY at b4;rw[e1,e3]at b4;exact Nk _ b4
 have e4:(CY f).2=(5+4*bt f 2+2*gN f,false):=by
  unfold CY;rw[e1,e3];exact(Nj _ hS).1
 have dd:f.size<=5+4*bt f 2+2*gN f:=by
  unfold kg at h;rw[e4]at h;simpa using h
 have hn0:0<=iF f (3+4*bt f 2):=by rw[BX hN.1];omega
 have lS:iF f (3+4*bt f 2)=(gN f:Int):=by unfold gN;omega
 have Px:5+4*bt f 2+2*gN f<=f.size:=by
  by_cases hn:gN f=0
  ·have:=hN.1;omega
  ·have:=(hS (gN f-1) (by omega)).1;omega
 refine⟨by have:=hN.1;omega,h4,hg,r2,?_,hn0,hN.2,by omega,?_⟩
 ·intro k hk;obtain⟨j,hj|hj⟩:∃j,k=2*j\/k=2*j+1:=⟨k / 2,by omega⟩
  ·subst hj;obtain⟨a1,a2⟩:=(hR j (by omega)).1;rw[show 3+2*(2*j)=3+4*j by omega,show 2*j / 2=j by omega];refine⟨by rw[BX a1];omega,by omega⟩
  ·subst hj;obtain⟨a1,a2⟩:=(hR j (by omega)).2;rw[show 3+2*(2*j+1)=5+4*j by omega,show(2*j+1) / 2=j by omega];refine⟨by rw[BX a1];omega,by omega⟩
 ·intro k hk;have:=(hS k (by omega)).2;omega
def uW(f:ByteArray):Nat->List (List Nat)
 | 0=>[]
 | k+1=>uW f k++[af (uW f k) (gA f k)++af (uW f k) (gB f k)]
theorem jG(f:ByteArray):∀k,(uW f k).length=k
 | 0=>rfl
 | k+1=>by show(uW f k++_).length=_;rw[List.length_append,jG f k];rfl
theorem lD.sound{f:ByteArray}(h:lD f):∀k,k<=bt f 2->Sound (Vu f k) (uW f k)
 | 0,_=>Sound.nil
 | k+1,hk=>by
   have ih:=h.sound k (by omega);exact ih.push (by rw[qs];exact(h.a (by omega)).2) (by rw[qs];exact(h.b (by omega)).2)
theorem zR{T:List (List Nat)}{s:Nat}(hs:s<256+T.length):fm (T.map aq) s=aq (af T s):=by
 unfold fm af;by_cases h1:s=10
 ·subst h1;rw[if_pos rfl,if_pos (by omega)];exact Ib 10
 ·rw[if_neg h1];by_cases h2:s<256
  ·rw[if_pos h2,if_pos h2];have:=Ib s;rwa [if_neg h1]at this
  ·rw[if_neg h2,if_neg h2];simp only[List.getD];rw[List.getElem?_map,List.getElem?_eq_getElem (by omega)];rfl
theorem lD.ps{f:ByteArray}(h:lD f):∀k,k<=bt f 2->xV f k=(uW f k).map aq
 | 0,_=>rfl
 | k+1,hk=>by
   have ih:=h.ps k (by omega);show xV f k++[_]=(uW f k++[_]).map aq;rw[ih,zR (by rw[jG];exact(h.a (by omega)).2),zR (by rw[jG];exact(h.b (by omega)).2),rV,List.map_append];rfl
theorem BY{T:List (List Nat)}:∀l:List Nat,(∀s,s∈l->s<256+T.length)->∀a,l.foldl (fun p s=>fu p (fm (T.map aq) s)) (aq a)=aq (a++l.flatMap (af T))
 | [],_,a=>by simp
 | s :: l,h,a=>by
   rw[List.foldl_cons,zR (h s (by simp)),rV,BY l (fun x hx=>h x (by simp[hx]))];simp
theorem wL{rs:List RU}{T:List (List Nat)}(hS:Sound rs T):∀l:List Nat,(∀s,s∈l->s<256+T.length)->∀a,l.foldl (fun p s=>jy p (partAt rs s)) (ik a)=ik (a++l.flatMap (af T))
 | [],_,a=>by simp
 | s :: l,h,a=>by
   rw[List.foldl_cons,hS.part (by rw[hS.len];exact h s (by simp)),xL,wL hS l (fun x hx=>h x (by simp[hx]))];simp
theorem lD.whole{f:ByteArray}(h:lD f):∃t,(M1 f).whole=ik t/\zy f=aq t:=by
 obtain⟨e1,e2,e3,e4,e5⟩:=h.read;have hb:∀s,s∈jE f (gN f)->s<256+(uW f (bt f 2)).length:=fun s hs=>by rw[jG];exact h.top _ (Nat.le_refl _) s hs
 refine⟨(jE f (gN f)).flatMap (af (uW f (bt f 2))),?_,?_⟩
 ·show rZ (Cz f).1 (CY f).1=_;rw[e2,e5];exact wL (h.sound _ (Nat.le_refl _)) _ hb []
 ·unfold zy dV;rw[h.ps _ (Nat.le_refl _)];exact BY _ hb []
theorem IJ(t:List Nat):(ik t).len=(aq t).aV:=gR t
theorem kr(a b:ByteArray):aU (a++b)=aU a++aU b:=by
 unfold aU;rw[ByteArray.data_append,Array.toList_append,List.map_append]
theorem LK{c:Nat}(h:c<256):aU ⟨#[c.toUInt8]⟩=[c]:=by
 show [c.toUInt8.toNat]=[c];rw[Nat.toUInt8_eq,UInt8.toNat_ofNat',Nat.mod_eq_of_lt (by omega)]
theorem qt{s:ByteArray}:aU s=[]↔s.size=0:=by
 rw[<-iR];exact List.length_eq_zero_iff.symm
theorem jH{s:ByteArray}(h:s.size≠0):aU (s.extract 0 1)=[(aU s).headD 0]:=by
 unfold aU;rw[ByteArray.data_extract];obtain⟨⟨l⟩⟩:=s;cases l with
 | nil=>exact absurd rfl h
 | cons x l=>simp
theorem BZ{t:List Nat}(h:t≠[]):(ik t).first=t.headD 0:=by unfold ik;rw[if_neg h]
theorem Tq{B:ByteArray}{p:Nat}:∀i,p+i<=8*B.size->(bW B p i).2=p+i:=by
 intro i;induction i with
 | zero=>intro _;rfl
 | succ i ih=>
   intro hi;show(d' B (bW B p i).2).2=_;rw[ih (by omega)];unfold d';rw[if_pos (by omega)];rfl
structure ZZ (B:ByteArray)(m:Nat)(s:CD×TT)(r:ZB)(T:List (List Nat)):Prop where
 bytes:s.1.B=B
 most:s.1.most=m
 p:s.1.p=r.p
 bad:s.1.bad=false
 sound:Sound s.2.rules T
 len:s.1.gone+r.bP.length=T.length
 Vs:∀i,i<r.bP.length->aU (r.bP.getD i ByteArray.empty)=T.getD (s.1.gone+i) []
 last:(s.1.ahead=none/\r.last.size=0/\r.bP=[])\/∃a,s.1.ahead=some a/\a<256+T.length/\aU r.last=af T a/\r.last.size≠0
 start:∀x,x∈s.2.start->x<256+T.length
 out:aU r.out=s.2.start.flatMap (af T)
 whole:s.2.whole=ik (aU r.out)
 syms:s.2.syms=r.n
 kind:s.2.kind=90
theorem ZZ.free{B:ByteArray}{m:Nat}{s:CD×TT}{r:ZB}{T:List (List Nat)}(h:ZZ B m s r T):dt s.2 s.1=jJ r:=by
 have:=h.len;have:=h.sound.len;unfold dt jJ;omega
theorem ZZ.wide{B:ByteArray}{m:Nat}{s:CD×TT}{r:ZB}{T:List (List Nat)}(h:ZZ B m s r T):dU s=pA m r:=by unfold dU pA;rw[h.free,h.most]
theorem ZZ.go{B:ByteArray}{m:Nat}{s:CD×TT}{r:ZB}{T:List (List Nat)}(h:ZZ B m s r T):JM s=lJ B m r:=by
 unfold JM lJ;rw[h.bad,h.wide,h.p,h.bytes];rfl
theorem ZZ.ok{B:ByteArray}{m:Nat}{s:CD×TT}{r:ZB}{T:List (List Nat)}(h:ZZ B m s r T):JN s=tE B r.p:=by
 unfold JN;rw[h.bad,h.p,h.bytes];rfl
theorem ZZ.entry{B:ByteArray}{m:Nat}{s:CD×TT}{r:ZB}{T:List (List Nat)}(h:ZZ B m s r T){c:Nat}(hc:c<256\/(257<=c/\c<jJ r)):aU (pz r.bP c)=af T (bN s.1.gone c)/\bN s.1.gone c<256+T.length:=by
 have hl:=h.len;unfold pz bN af;rcases hc with hc|⟨hc,hf⟩
 ·rw[if_pos hc,if_pos hc,if_pos hc];exact⟨LK hc,by omega⟩
 ·unfold jJ at hf;have n1:¬c<256:=by omega
  have n2:¬s.1.gone+c-1<256:=by omega
  simp only[if_neg n1,if_neg n2];rw[h.Vs _ (by omega),show s.1.gone+(c-257)=s.1.gone+c-1-256 by omega];exact⟨rfl,by omega⟩
theorem IK{T U:List (List Nat)}{l:List Nat}(h:∀x,x∈l->x<256+T.length):l.flatMap (af (T++U))=l.flatMap (af T):=by
 induction l with
 | nil=>rfl
 | cons x l ih=>
   rw[List.flatMap_cons,List.flatMap_cons,gT (h x (by simp)),ih (fun y hy=>h y (by simp[hy]))]
theorem ZZ.plain{B:ByteArray}{m:Nat}{s:CD×TT}{r:ZB}{T:List (List Nat)}(h:ZZ B m s r T){q sy:Nat}{now:ByteArray}(CB:sy<256+T.length)(hn:aU now=af T sy)(fx:now.size≠0):
 ZZ B m ({s.1 with p:=q,ahead:=some sy},cz (bj s.2) sy) { p:=q,n:=r.n+1,out:=r.out++now,bP:=r.bP,last:=now} T:=by
 have ho:aU (r.out++now)=(s.2.start++[sy]).flatMap (af T):=by
  rw[kr,h.out,hn,List.flatMap_append];simp
 refine⟨h.bytes,h.most,rfl,h.bad,h.sound,h.len,h.Vs,Or.inr ⟨sy,rfl,CB,hn,fx⟩,?_,ho,?_,?_,h.kind⟩
 ·intro x hx;rcases List.mem_append.1 hx with hx|hx
  ·exact h.start x hx
  ·simp at hx;omega
 ·show jy s.2.whole (partAt s.2.rules sy)=ik (aU (r.out++now));rw[h.whole,h.sound.part (by rw[h.sound.len];exact CB),xL,kr,hn]
 ·show s.2.syms+1=r.n+1;rw[h.syms]
theorem ZZ.join{B:ByteArray}{m:Nat}{s:CD×TT}{r:ZB}{T:List (List Nat)}(h:ZZ B m s r T){a fb:Nat}{e:ByteArray}(ha:a<256+T.length)(AS:fb<256)(he:aU e=af T a++[fb])(hl:(s.1.ahead=some a/\aU r.last=af T a/\r.last.size≠0)):
 ZZ B m (s.1,df s.2 a fb) { r with bP:=r.bP++[e]} (T++[af T a++af T fb]):=by
 have hs:=h.sound.push (l:=a) (r:=fb) (by rw[h.sound.len];exact ha) (by omega);have hT:(T++[af T a++af T fb]).length=T.length+1:=by simp
 have hlen:=h.len;refine⟨h.bytes,h.most,h.p,h.bad,hs,?_,?_,Or.inr ⟨a,hl.1,by omega,by rw[gT ha];exact hl.2.1,hl.2.2⟩,?_,?_,h.whole,h.syms,h.kind⟩
 ·show s.1.gone+(r.bP++[e]).length=_;rw[hT,List.length_append,List.length_singleton];omega
 ·intro i hi;replace hi:i<(r.bP++[e]).length:=hi
  show aU ((r.bP++[e]).getD i ByteArray.empty)=_;rw[List.length_append,List.length_singleton]at hi;by_cases h2:i<r.bP.length
  ·have:=h.Vs i h2;simp only[List.getD]at this ⊢;rw[List.getElem?_append_left h2,List.getElem?_append_left (by omega)];exact this
  ·have h3:i=r.bP.length:=by omega
   subst h3;simp only[List.getD];rw[List.getElem?_append_right (Nat.le_refl _),hlen,List.getElem?_append_right (Nat.le_refl _)];simp only[Nat.sub_self,List.getElem?_cons_zero,Option.getD_some];rw[he];have:af T fb=[fb]:=if_pos AS;rw[this]
 ·intro x hx;have:=h.start x hx;omega
 ·rw[h.out];exact(IK h.start).symm
theorem ZZ.step{B:ByteArray}{m:Nat}{s:CD×TT}{r:ZB}{T:List (List Nat)}(h:ZZ B m s r T)(hg:lJ B m r=true):
 (Vq B m r=none->(px s).1.bad=true)/\∀r',Vq B m r=some r'->∃T',ZZ B m (px s) r' T':=by
 have JF:r.p+pA m r<=8*B.size:=by unfold lJ at hg;simpa using hg
 have hz:px s=yS { s.1 with p:=r.p+pA m r} s.2 (bW B r.p (pA m r)).1:=by
  unfold px;rw[h.bytes,h.p,h.wide,Tq _ JF]
 rw[hz];unfold Vq;generalize (bW B r.p (pA m r)).1=c;have eF:dt s.2 { s.1 with p:=r.p+pA m r}=jJ r:=h.free;have h':ZZ B m ({s.1 with p:=r.p+pA m r},s.2) { r with p:=r.p+pA m r} T:=⟨h.bytes,h.most,rfl,h.bad,h.sound,h.len,h.Vs,h.last,h.start,h.out,h.whole,h.syms,h.kind⟩;have hF:257<=jJ r:=by unfold jJ;omega
 unfold yS Eb;rw[eF];by_cases hc:c=256
 ·subst hc;rw[if_pos rfl,if_pos rfl];refine⟨fun hx=>by(cases hx),fun r' hr=>⟨T,?_⟩⟩;simp only[Option.some.injEq]at hr;subst hr;exact⟨h.bytes,h.most,rfl,h.bad,h.sound,h.sound.len,(fun i hi=>absurd hi (Nat.not_lt_zero _)),Or.inl ⟨rfl,rfl,rfl⟩,h.start,h.out,h.whole,by show s.2.syms+1=r.n+1;rw[h.syms],h.kind⟩
 rw[if_neg hc,if_neg hc];rcases h.last with⟨la,lb,lc⟩|⟨a,la,lb,lt,lne⟩
 ·have hF7:jJ r=257:=by unfold jJ;rw[lc];rfl
  have hj:fC { s.1 with p:=r.p+pA m r} (jJ r)=none:=by unfold fC;simp only[];rw[la]
  by_cases hb:256<c
  ·rw[if_pos ⟨lb,hb⟩,if_pos (show C0 _ c (jJ r) by
    by_cases h7:c=257
    ·exact Or.inr ⟨by omega,hj⟩
    ·exact Or.inl (by omega))]
   exact⟨fun _=>rfl,fun r' hr=>by(cases hr)⟩
  ·rw[if_neg (fun hx=>hb hx.2),if_neg (by omega),if_neg (show ¬C0 _ c (jJ r) from fun hx=>by rcases hx with hx|hx <;> omega),hj]
   refine⟨fun hx=>by(cases hx),fun r' hr=>⟨T,?_⟩⟩;simp only[Option.some.injEq]at hr;subst hr;have IL:jb r c=pz r.bP c:=by unfold jb;rw[if_neg (by omega)]
   obtain⟨e1,e2⟩:=h.entry (c:=c) (Or.inl (by omega));have fx:(pz r.bP c).size≠0:=fun hx=>by
    have:=qt.2 hx;rw[e1]at this;exact h.sound.ne (by rw[h.sound.len];exact e2) this
   rw[IL,if_neg (fun hx=>hx.1 lb)];exact h'.plain e2 e1 fx
 ·rw[if_neg (fun hx=>lne hx.1)];have hj:fC { s.1 with p:=r.p+pA m r} (jJ r)=if jJ r<2 ^ m then some a else none:=by unfold fC;simp only[];rw[la,h.most]
  by_cases hb:jJ r<c\/(c=jJ r/\¬jJ r<2 ^ m)
  ·rw[if_pos hb,if_pos (show C0 _ c (jJ r) by
    rcases hb with hb|hb
    ·exact Or.inl hb
    ·exact Or.inr ⟨hb.1,by rw[hj,if_neg hb.2]⟩)]
   exact⟨fun _=>rfl,fun r' hr=>by(cases hr)⟩
  ·rw[if_neg hb,if_neg (show ¬C0 _ c (jJ r) from fun hx=>by
    rcases hx with hx|⟨hx,hy⟩
    ·exact hb (Or.inl hx)
    ·by_cases hr:jJ r<2 ^ m
     ·rw[hj,if_pos hr]at hy;cases hy
     ·exact hb (Or.inr ⟨hx,hr⟩))]
   refine⟨fun hx=>by(cases hx),fun r' hr=>?_⟩;simp only[Option.some.injEq]at hr;subst hr;have hle:c<=jJ r:=by omega
   by_cases iS:jJ r<2 ^ m
   ·rw[hj,if_pos iS,if_pos ⟨lne,iS⟩]
    -- the first byte of Ys is read now
    have hap:partAt s.2.rules a=ik (af T a):=h.sound.part (by rw[h.sound.len];exact lb);have ZJ:af T a≠[]:=h.sound.ne (by rw[h.sound.len];exact lb);have lI:aU ((jb r c).extract 0 1)=[ki s.2 s.1.gone a c (jJ r)]:=by
     unfold ki jb;by_cases WC:c=jJ r
     ·rw[if_pos WC,if_pos WC,hap,BZ ZJ];have dd:(r.last++r.last.extract 0 1).size≠0:=by rw[iX];omega
      rw[jH dd,kr,lt];cases hx:af T a with
      | nil=>exact absurd hx ZJ
      | cons y l=>rfl
     ·rw[if_neg WC,if_neg WC];obtain⟨e1,e2⟩:=h.entry (c:=c) (by omega);have PJ:af T (bN s.1.gone c)≠[]:=h.sound.ne (by rw[h.sound.len];exact e2);have fx:(pz r.bP c).size≠0:=fun hx=>by rw[<-qt,e1]at hx;exact PJ hx
      rw[jH fx,e1,h.sound.part (by rw[h.sound.len];exact e2),BZ PJ]
    have AS:ki s.2 s.1.gone a c (jJ r)<256:=by
     have:=tj ((jb r c).extract 0 1) (ki s.2 s.1.gone a c (jJ r)) (by rw[lI];simp);exact this
    obtain⟨fb,hfbg⟩:∃fb,fb=ki s.2 s.1.gone a c (jJ r):=⟨_,rfl⟩;rw[<-hfbg]at lI AS;have tF:aU (r.last++(jb r c).extract 0 1)=af T a++[fb]:=by rw[kr,lt,lI]
    have hJ:=h'.join (a:=a) (fb:=fb) lb AS tF ⟨la,lt,lne⟩;have hfbT:af T fb=[fb]:=if_pos AS;have IL:aU (jb r c)=af (T++[af T a++af T fb]) (bN s.1.gone c)/\bN s.1.gone c<256+(T++[af T a++af T fb]).length:=by
     by_cases WC:c=jJ r
     ·have CB:bN s.1.gone c=256+T.length:=by
       have:=h.len;unfold bN jJ at *;rw[if_neg (by omega)];omega
      rw[CB,Sm];refine⟨?_,by simp⟩;have hn:jb r c=r.last++r.last.extract 0 1:=by unfold jb;rw[if_pos WC]
      have h3:=lI;rw[hn]at h3 ⊢;have dd:(r.last++r.last.extract 0 1).size≠0:=by rw[iX];omega
      rw[jH dd,kr,lt,jH lne,lt]at h3;rw[kr,lt,jH lne,lt,hfbT];cases hx:af T a with
      | nil=>exact absurd hx ZJ
      | cons y l=>rw[hx]at h3;simpa using h3
     ·obtain⟨e1,e2⟩:=h.entry (c:=c) (by omega);have hn:jb r c=pz r.bP c:=by unfold jb;rw[if_neg WC]
      rw[hn,e1,gT e2];exact⟨rfl,by rw[List.length_append];omega⟩
    have hnne:(jb r c).size≠0:=fun hx=>by
     have h5:=qt.2 hx;rw[IL.1]at h5;exact hJ.sound.ne (by rw[hJ.sound.len];exact IL.2) h5
    refine⟨T++[af T a++af T fb],?_⟩;have aA:=hJ.plain (q:=r.p+pA m r) IL.2 IL.1 hnne;rw[hfbg]at aA ⊢;exact aA
   ·rw[hj,if_neg iS,if_neg (fun hx=>iS hx.2)];have WC:c≠jJ r:=fun hx=>hb (Or.inr ⟨hx,iS⟩);have IL:jb r c=pz r.bP c:=by unfold jb;rw[if_neg WC]
    obtain⟨e1,e2⟩:=h.entry (c:=c) (by omega);have fx:(pz r.bP c).size≠0:=fun hx=>by
     have:=qt.2 hx;rw[e1]at this;exact h.sound.ne (by rw[h.sound.len];exact e2) this
    rw[IL];exact⟨T,h'.plain e2 e1 fx⟩
theorem zz0(f:ByteArray):ZZ (f.extract 3 f.size) (bt f 2) (z0 f) {} []:=
 ⟨rfl,rfl,rfl,rfl,Sound.nil,rfl,(fun i hi=>absurd hi (Nat.not_lt_zero _)),Or.inl ⟨rfl,rfl,rfl⟩,(fun x hx=>nomatch hx),rfl,rfl,rfl,rfl⟩
def OnB(f:ByteArray)(n:Nat):Prop:=∀i,i<n->∃q,qj (f.extract 3 f.size) (bt f 2) i=some q/\lJ (f.extract 3 f.size) (bt f 2) q=true
theorem xW{f:ByteArray}:∀n r,qj (f.extract 3 f.size) (bt f 2) n=some r->OnB f n->∃T,ZZ (f.extract 3 f.size) (bt f 2) (l7 (z0 f) n) r T
 | 0,r,h,_=>by
   simp only[qj,Option.some.injEq]at h;subst h;exact⟨[],zz0 f⟩
 | n+1,r,h,iw=>by
   obtain⟨q,hq,hg⟩:=iw n (by omega);obtain⟨T,hT⟩:=xW n q hq (fun i hi=>iw i (by omega));have h2:(qj (f.extract 3 f.size) (bt f 2) n).bind (Vq (f.extract 3 f.size) (bt f 2))=some r:=h;rw[hq]at h2;exact(hT.step hg).2 r h2
theorem Ts{f:ByteArray}{n:Nat}(iw:OnB f n):∀i,i<n->JM (l7 (z0 f) i)=true:=fun i hi=>by
 obtain⟨q,hq,hg⟩:=iw i hi;obtain⟨T,hT⟩:=xW i q hq (fun j hj=>iw j (by omega));rw[hT.go];exact hg
theorem By.file'{f:ByteArray}{n:Nat}{r:ZB}(h:By f n r):cA f (l7 (z0 f) n).2/\(l7 (z0 f) n).2.kind=90/\(l7 (z0 f) n).2.syms=n/\(l7 (z0 f) n).2.whole=ik (aU r.out):=by
 obtain⟨T,hT⟩:=xW n r h.it h.on;obtain⟨z1,z2,z3,z4,z5⟩:=h.file;refine⟨cA.yV (by omega) z2 z3 ?_ ⟨Ts h.on,by rw[hT.go];exact h.stop⟩ (by rw[hT.ok];exact h.fin),hT.kind,by rw[hT.syms,h.num],hT.whole⟩;unfold lP;rw[decide_eq_true z1,decide_eq_true z4,decide_eq_true z5];rfl
theorem Zn.none{f:ByteArray}(h:Zn f)(h4:f.size<=4000)(hz:FB f)(hm:lP f=true){n:Nat}(hr:xM f n)(hk:JN (l7 (z0 f) n)=true):False:=by
 rcases h with h|⟨h,n0,r,Hc,iw,⟨a,b⟩|⟨a,b⟩⟩
 ·unfold lP at hm;simp only[Bool.and_eq_true,decide_eq_true_eq]at hm;exact h ⟨hm.1.1,h4,hz,hm.1.2,hm.2⟩
 ·obtain⟨T,hT⟩:=xW n0 r Hc iw;have hb:=(hT.step a).1 b;have zc:xM f (n0+1):=by
   refine⟨fun i hi=>?_,?_⟩
   ·by_cases oC:i=n0
    ·subst oC;rw[hT.go];exact a
    ·exact Ts iw i (by omega)
   ·show JM (px (l7 (z0 f) n0))=false;unfold JM;rw[hb];rfl
  have:=hr.one zc;subst this;have gH:JN (px (l7 (z0 f) n0))=true:=hk;unfold JN at gH;rw[hb]at gH;cases gH
 ·obtain⟨T,hT⟩:=xW n0 r Hc iw;have zc:xM f n0:=⟨Ts iw,by rw[hT.go];exact a⟩;have:=hr.one zc;subst this;rw[hT.ok,b]at hk;cases hk
theorem Em:∀l:List Nat,(∀x,x∈l->x<256)->l.flatMap (af [])=l
 | [],_=>rfl
 | x :: l,h=>by
   have e:af [] x=[x]:=if_pos (h x (by simp));rw[List.flatMap_cons,e,Em l (fun y hy=>h y (by simp[hy]))];rfl
end Go.Proofs.YtgifhgnccmnbiabGreatDoor
