/- Part of the proof. -/
import Derived.Test.YtgifhgnccmnbiabGreatDoorG07
import Derived.Test.YtgifhgnccmnbiabGreatDoorG03
set_option linter.unusedVariables false
set_option linter.unusedSimpArgs false
set_option maxHeartbeats 4000000
set_option maxRecDepth 100000
namespace Go.Proofs.YtgifhgnccmnbiabGreatDoor
open Go.RowKit Go.IntWalk
theorem DD(m:MP)(g:Nat)(step:aZ)(n:AN)(x:IV)(fold:Bool)(B:Nat)(w:World)(h:fq w g m)(hx:cj w B x n.cM)(hl:n.cM.length<=1000)(fx:(fF x).ownBlock≠some g):
 Calls Tryz.prog 95 #[.pointer (some ⟨g,0,none⟩),.int .u64 (step.toNat:Int),.agg #[.int .i64 n.kind,.slice x.1 x.2.1 x.2.2,.bool n.neg,.int .i64 n.left,.int .i64 n.right,.int .i64 n.least,.int .i64 n.most,.int .i64 n.size],.bool fold] w
  fun e w'=>e=.returned (.tuple #[])/\fq w' g (fg m step n fold)/\Kept [g] w w':=by
 have hg:g<w.heap.size:=ah.lt h;have hA:fq (w.alloc (.cells #[.int .i64 n.kind,.slice x.1 x.2.1 x.2.2,.bool n.neg,.int .i64 n.left,.int .i64 n.right,.int .i64 n.least,.int .i64 n.most,.int .i64 n.size] 164)) g m:=ah.alloc h _;have k0:Kept [g] w (w.alloc (.cells #[.int .i64 n.kind,.slice x.1 x.2.1 x.2.2,.bool n.neg,.int .i64 n.left,.int .i64 n.right,.int .i64 n.least,.int .i64 n.most,.int .i64 n.size] 164)):=(Kept.refl _ _).alloc _;by_cases e2:n.kind=2
 ·have hP:Hid (fg m step n fold={m with aE:=m.aE|||step}):=by show fg m step n fold=_;unfold fg;rw[if_pos e2]
  have tL:=p8 m.aE step;have c1:=h.aE;have f1:=h.frozen 321;have hI:=(ah.set h 321 (UV (m.aE|||step)))
  rw[E9]at hI;have cC:Hid (ah _ _ _ _):=hI.alloc (.cells #[.int .i64 n.kind,.slice x.1 x.2.1 x.2.2,.bool n.neg,.int .i64 n.left,.int .i64 n.right,.int .i64 n.least,.int .i64 n.most,.int .i64 n.size] 164);have Cx:Hid (Kept _ _ _):=((Kept.refl [g] w).setCell (p:=⟨g,321,none⟩) (Or.inl (by simp)) (UV (m.aE|||step))).alloc (.cells #[.int .i64 n.kind,.slice x.1 x.2.1 x.2.2,.bool n.neg,.int .i64 n.left,.int .i64 n.right,.int .i64 n.least,.int .i64 n.most,.int .i64 n.size] 164)
  have b2:(n.kind==2)=true:=by rw[e2];rfl
  clear hI hA h hx k0 e2;generalize m.aE|||step=Z at *
  go_enter Tryz.func95,Tryz.ntmps95
  go_wp2
  go_end0;exact⟨rfl,by rw[hP.out];exact cC.out,Cx.out⟩
 by_cases e3:n.kind=3
 ·have hP:Hid (fg m step n fold={m with ends:=m.ends|||step}):=by show fg m step n fold=_;unfold fg;rw[if_neg e2,if_pos e3]
  have tL:=p8 m.ends step;have c1:=h.ends;have f1:=h.frozen 322;have hI:=(ah.set h 322 (UV (m.ends|||step)))
  rw[KB]at hI;have cC:Hid (ah _ _ _ _):=hI.alloc (.cells #[.int .i64 n.kind,.slice x.1 x.2.1 x.2.2,.bool n.neg,.int .i64 n.left,.int .i64 n.right,.int .i64 n.least,.int .i64 n.most,.int .i64 n.size] 164);have Cx:Hid (Kept _ _ _):=((Kept.refl [g] w).setCell (p:=⟨g,322,none⟩) (Or.inl (by simp)) (UV (m.ends|||step))).alloc (.cells #[.int .i64 n.kind,.slice x.1 x.2.1 x.2.2,.bool n.neg,.int .i64 n.left,.int .i64 n.right,.int .i64 n.least,.int .i64 n.most,.int .i64 n.size] 164)
  have b2:(n.kind==2)=false:=by rw[e3];rfl
  have b3:(n.kind==3)=true:=by rw[e3];rfl
  clear hI hA h hx k0 e2 e3;generalize m.ends|||step=Z at *
  go_enter Tryz.func95,Tryz.ntmps95
  go_wp2
  go_end0;exact⟨rfl,by rw[hP.out];exact cC.out,Cx.out⟩
 by_cases e1:n.kind=1
 ·have hP:Hid (fg m step n fold=dx m step n fold 256):=by show fg m step n fold=_;unfold fg;rw[if_neg e2,if_neg e3,if_pos e1]
  have hc:Hid (Calls _ _ _ _ _):=AO m g step n x fold B _ hA (hx.iN k0 (by simpa using fx)) hl fx;have RJ:World.rangeAt (w.alloc (.cells #[.int .i64 n.kind,.slice x.1 x.2.1 x.2.2,.bool n.neg,.int .i64 n.left,.int .i64 n.right,.int .i64 n.least,.int .i64 n.most,.int .i64 n.size] 164)) w.heap.size 0 (n.cells x):=fun j v hv=>by
   rw[Nat.zero_add,(ah.new w _ _).cell,<-hv];show(n.cells x).toArray[j]?=_;simp
  have zi:Hid (Kept _ _ _):=k0;have hK:Hid (n.kind=1):=e1;have ek:(w.alloc (.cells #[.int .i64 n.kind,.slice x.1 x.2.1 x.2.2,.bool n.neg,.int .i64 n.left,.int .i64 n.right,.int .i64 n.least,.int .i64 n.most,.int .i64 n.size] 164)).cell? ⟨w.heap.size,0,none⟩=some (.int .i64 1):=by
   rw[(ah.new w _ _).cell,<-e1];rfl
  have nL:∀kd,kd=n.kind->n.kind=1:=fun _ _=>e1;clear hA h hx k0 e2 e3 e1 ek nL;go_enter Tryz.func95,Tryz.ntmps95
  have e1:=hK.out;have e1':(n.kind==2)=false:=by rw[e1];rfl
  have e1'':(n.kind==3)=false:=by rw[e1];rfl
  have e1''':(n.kind==1)=true:=by rw[e1];rfl
  clear e1;go_wp2_with (first
   | (with_reducible refine ig ?_ (.tmp 6) ?_ w.heap.size 0 ?_ n x ?_ ?_
      ·rfl
      ·rfl
      ·rfl
      ·exact RJ)
   | (go_at_call 141
      refine hc.out.mono ?_;rintro e w5 ⟨rfl,h5,k5⟩))
  go_end0;exact⟨rfl,by rw[hP.out];exact h5,zi.out.trans k5⟩
 ·have hP:Hid (fg m step n fold=m):=by show fg m step n fold=_;unfold fg;rw[if_neg e2,if_neg e3,if_neg e1]
  have cC:Hid (fq _ _ _):=hA;have zi:Hid (Kept _ _ _):=k0;clear hA h hx k0;go_enter Tryz.func95,Tryz.ntmps95
  go_wp2
  go_end0;exact⟨rfl,by rw[hP.out];exact cC.out,zi.out⟩
theorem OC(m:MP)(i:Nat):(qA m i).oneCell'=true:=by
 unfold qA;repeat' split
 all_goals rfl
theorem KD(m:MP):(aI m).all (·.oneCell')=true:=Av fun j _=>OC m j
theorem OD:(Tryz.prog.info? 101).map (fun i=>(i.zero,i.size))=some (some (.agg (aI {})),324):=by kernel_rfl
theorem uo(w:World):(zeroValue 101).run Tryz.prog w=.ok (.agg (aI {})) w:=by
 have h:=OD;cases hq:Tryz.prog.info? 101 with
 | none=>simp[hq]at h
 | some i=>
   simp[hq]at h;simp[zeroValue,typeInfo,hq,h.1]
theorem xB:(Tryz.prog.info? 101).map (·.size)=some 324:=by kernel_rfl
theorem ij{ops:Array Oper}{rest:List Oper}{o:Oper}{a:Act}{w:World}{Q:Exit->Act->World->Prop}(pR:o.guard=none)(x:Operand)(ho:o.op=.load 101 x)
 (g:Nat) (hx:a.eval x=.pointer (some ⟨g,0,none⟩)) (p:MP) (hg:fq w g p)
 (h:wpList Tryz.prog ops Q rest (a.put o.dst (.agg (aI p))) w):wpList Tryz.prog ops Q (o :: rest) a w:=
 wpList_load_row pR _ x ho g hx _ _ _ _ hg Tryz.underlying101 rfl (by rw[nO];exact xB) h
theorem cJ{ops:Array Oper}{rest:List Oper}{o:Oper}{a:Act}{w:World}{Q:Exit->Act->World->Prop}(pR:o.guard=none)(x y:Operand)(ho:o.op=.store 101 x y)
 (g:Nat) (hx:a.eval x=.pointer (some ⟨g,0,none⟩)) (q p:MP) (hy:a.eval y=.agg (aI p)) (hg:fq w g q)
 (h:∀w',fq w' g p->Kept [g] w w'->w'.heap.size=w.heap.size->wpList Tryz.prog ops Q rest (a.put o.dst undef) w'):wpList Tryz.prog ops Q (o :: rest) a w:=by
 refine wpList_plain pR fun K hK=>?_;have hr:=run_storeVar_row (P:=Tryz.prog) w g 101 101 (aI q) (aI p) hg (by rw[nO];exact xB) (by simp) (KD p);unfold Oper.wp execOp;simp only[ho,hx,hy,Instr.storeAt,Instr.sureAddr,Sem.run_bind,Sem.run_pure,Result.andThen_ok,hr];exact hK _ _ (h _ (ah.Hn hg) (Kept.setRow w g _) (by simp))
theorem lV{fn:Func}{r:Tmp}(h:fn.results=#[.cell r 101])(tmps:Array Value)(w:World)(g:Nat)(p:MP)
 (hp:tmps.getD r undef=.pointer (some ⟨g,0,none⟩)) (hg:fq w g p):(results fn tmps).run Tryz.prog w=.ok (.agg (aI p)) w:=
 results_cell_row h tmps w g _ _ _ _ hp hg Tryz.underlying101 rfl (by rw[nO];exact xB)
theorem DE(m:MP)(s:aZ):(aI m).setIfInBounds 0 (UV s)=aI { m with cL:=s}:=bm _ _ _ _ fun j hj=>by
 by_cases h:j=0
 ·subst h;rfl
 ·unfold qA;simp only[if_neg h]
theorem Hy(m:MP)(s:aZ):(aI m).setIfInBounds 1 (UV s)=aI { m with en:=s}:=bm _ _ _ _ fun j hj=>by
 by_cases h:j=1
 ·subst h;rfl
 ·unfold qA;simp only[if_neg h]
theorem KE(w:World)(b:Bool)(s:aZ):(Instr.build 101 #[(6,.int .u64 (s.toNat:Int))]).run Tryz.prog w=.ok (.agg (aI { whole:=b,last:=s})) w:=by
 unfold Instr.build;rw[Sem.run_bind,uo w];simp[Sem.run_bind,run_underlying Tryz.underlying101,go_sem];have fx:aI {}≠#[]:=fun h=>by have:=nO {};rw[h]at this;simp at this
 have e:=AM { whole:=b} s;have e0:aI { whole:=b}=aI {}:=rfl;rw[e0]at e;rw[e]
theorem nQ{ops:Array Oper}{rest:List Oper}{o:Oper}{a:Act}{w:World}{Q:Exit->Act->World->Prop}(pR:o.guard=none)(y:Operand)(ho:o.op=.build 101 #[(6,y)])
 (b:Bool) (s:aZ) (hy:a.eval y=.int .u64 (s.toNat:Int))
 (h:wpList Tryz.prog ops Q rest (a.put o.dst (.agg (aI { whole:=b,last:=s}))) w):wpList Tryz.prog ops Q (o :: rest) a w:=
 fQ pR _ _ ho _ (by simp only[List.map_toArray,List.map_cons,List.map_nil,hy]) _ (KE w b s) h
def dL(m:MP)(q:Nat)(s:aZ):MP:={m with next:=fun j=>if j=q then s else m.next j}
def uq(p:GP)(whole:Bool):MP:={dL { whole:=whole,last:=p.last} 60 p.first with last:=if p.empty=true then p.last|||cq else p.last}
def bf(ns:List AN)(p:GP)(fold whole:Bool):Nat->MP
 | 0=>uq p whole
 | q+1=>
   match ns[p.node q]? with
   | some n=>fg (dL (bf ns p fold whole q) q (p.next q)) (1#64 <<< q) n fold
   | none=>dL (bf ns p fold whole q) q (p.next q)
def iP(ns:List AN)(p:GP)(fold whole:Bool):MP:=bf ns p fold whole p.count
structure kX (w0 w:World)(gp g:Nat)(v:Value)(size:Int)(p:GP)(m:MP):Prop where
 mi:fq w g m
 pt:ah w gp (ae p) 158
 pat:ah w w0.heap.size #[v,.int .i64 size] 93
 res:fq w (w0.heap.size+1) {}
 k:Kept [] w0 w
 lt:w0.heap.size+1<gp
 ltg:gp<g
theorem kX.cf{w0 w w':World}{gp g:Nat}{v:Value}{size:Int}{p:GP}{m m':MP}(h:kX w0 w gp g v size p m)(hm:fq w' g m')(k:Kept [g] w w'):kX w0 w' gp g v size p m':=by
 have:=h.lt;have:=h.ltg;exact⟨hm,h.pt.kept k (by simp;omega),h.pat.kept k (by simp;omega),ah.kept h.res k (by simp;omega),h.k.cf k (by omega),h.lt,h.ltg⟩
theorem kX.set{w0 w:World}{gp g:Nat}{v:Value}{size:Int}{p:GP}{m m':MP}(h:kX w0 w gp g v size p m)(i:Nat)(u:Value)(he:(aI m).setIfInBounds i u=aI m'):kX w0 (w.setCell ⟨g,i,none⟩ u) gp g v size p m':=by
 refine h.cf (m':=m') ?_ ((Kept.refl _ _).setCell (Or.inl (by simp)) _);have:=ah.set h.mi i u;rw[he]at this;exact this
theorem fq.set{w:World}{g:Nat}{m m':MP}(h:fq w g m)(i:Nat)(u:Value)(he:(aI m).setIfInBounds i u=aI m'):fq (w.setCell ⟨g,i,none⟩ u) g m':=by
 have:=ah.set h i u;rw[he]at this;exact this
theorem fq.yE{w:World}{g:Nat}{m:MP}(h:fq w g m):fq w.drew g m:=ah.kept h ((Kept.refl [] _).drew) (by simp)
theorem DF(m:MP)(S:aZ):∀q,gf m 0#64 S q=0#64
 | 0=>rfl
 | q+1=>by rw[gf,if_pos (by simp),DF m S q]
theorem rN(m:MP)(X:aZ):∀q,bG m 0#64 X q=X
 | 0=>rfl
 | q+1=>by
   rw[bG,rN m X q];unfold fK;rw[DF];simp
theorem vH(m:MP)(g:Nat)(free:aZ)(w:World)(h:fq w g m):
 Calls Tryz.prog 142 #[.pointer (some ⟨g,0,none⟩),.int .u64 (free.toNat:Int)] w fun e w'=>e=.returned (.int .u64 ((bA m free).toNat:Int))/\Kept [] w w':=by
 have hg:g<w.heap.size:=ah.lt h;have c0:=h.last;have ho:=p8 m.last cX;rw[AF]at ho;have e0:Hid (bA m free=bG m free (m.last|||cX) 60):=rfl
 have hI:Hid (fq (w.alloc (.cells #[.pointer (some ⟨g,2,none⟩),UV free] 167)) g m):=ah.alloc h _;have hB:Hid (ah (w.alloc (.cells #[.pointer (some ⟨g,2,none⟩),UV free] 167)) w.heap.size #[.pointer (some ⟨g,2,none⟩),UV free] 167):=ah.new w _ _;have hK:Hid (Kept [] w (w.alloc (.cells #[.pointer (some ⟨g,2,none⟩),UV free] 167))):=(Kept.refl [] w).alloc _;generalize m.last|||cX=X at *
 clear h;go_enter Tryz.func142,Tryz.ntmps142
 go_wp2_with fail
 go_loopw [6,7] (fun ev iv wr=>∃q:Nat,ev=.int .u64 ((bG m free X q).toNat:Int)/\iv=.int .i64 (q:Int)/\q<=60/\fq wr g m/\ah wr w.heap.size #[.pointer (some ⟨g,2,none⟩),UV free] 167/\Kept [] w wr) (fun _ iv _=>(60-intOf iv).toNat)
 case atStart=>exact⟨0,rfl,rfl,by omega,hI.out,hB.out,hK.out⟩
 case round=>
  obtain⟨q,rfl,rfl,hq,Xq,lR,Vh⟩:=hrel;clear hI hB hK;by_cases bO:(q:Int)<60
  ·by_cases hf:free=0#64
   ·have Vi:(free.toNat:Int)=0:=(ox _).2 hf;have e1:Hid (bA m free=bG m free X q):=by show bA m free=_;rw[e0.out,hf,rN,rN]
    have Cx:Hid (Kept _ _ _):=Vh;clear hf e0 Xq lR Vh;generalize bG m free X q=Y at *;go_wp2
    go_ret;exact⟨by rw[e1.out];rfl,Cx.out⟩
   ·have Vi:(free.toNat:Int)≠0:=fun hc=>hf ((ox _).1 hc);have hc:Hid (Calls _ _ _ wr _):=Hx m g 2 free (bG m free X q) wr Xq.bP;have tL:=p8 (bG m free X q) (fK m free (bG m free X q));have e1:Hid (bG m free X (q+1)=bG m free X q|||fK m free (bG m free X q)):=rfl
    have d0:wr.cell? ⟨w.heap.size,0,none⟩=some (.pointer (some ⟨g,2,none⟩)):=lR.cell 0;have d1:wr.cell? ⟨w.heap.size,1,none⟩=some (UV free):=lR.cell 1;have ML:Hid (fq wr g m):=Xq;have lE:Hid (ah wr w.heap.size #[.pointer (some ⟨g,2,none⟩),UV free] 167):=lR;have DG:Hid (Kept [] w wr):=Vh;clear hf e0 Xq lR Vh ho c0;generalize fK m free (bG m free X q)=V at *;generalize bG m free X q|||V=Z at *
    go_wp2_with (go_at_call 182;refine hc.out.mono ?_;rintro _ w2 ⟨rfl,k2⟩)
    refine⟨⟨q+1,by rw[e1.out],by go_num,by omega,ah.kept ML.out k2 (by simp),lE.out.kept k2 (by simp),DG.out.trans k2⟩,?_⟩;simp only[intOf];omega
  ·have p':q=60:=by omega
   subst p';have Cx:Hid (Kept _ _ _):=Vh;clear Xq lR Vh;go_wp2
   go_ret;exact⟨by rw[e0.out];rfl,Cx.out⟩
theorem vI(m:MP)(g:Nat)(w:World)(h:fq w g m):
 Calls Tryz.prog 96 #[.pointer (some ⟨g,0,none⟩)] w fun e w'=>e=.returned (.tuple #[])/\fq w' g (lU m)/\Kept [g] w w':=by
 have hg:g<w.heap.size:=ah.lt h;have c0:=h.aE;have f0:=h.frozen 0;have b0:=h.cL;have dy:Hid (∀o,fq ((w.setCell ⟨g,0,none⟩ (.int .u64 5764607523034234880)).alloc o).drew g { m with cL:=jW m 0}/\Kept [g] w ((w.setCell ⟨g,0,none⟩ (.int .u64 5764607523034234880)).alloc o).drew):=fun o=>
  ⟨fq.yE (ah.alloc (fq.set h 0 _ (DE m (jW m 0))) o),((((Kept.refl [g] w).setCell (Or.inl (by simp)) _).alloc o).drew)⟩
 have hwy:Hid (ah ((w.setCell ⟨g,0,none⟩ (.int .u64 5764607523034234880)).alloc (.cells #[.pointer (some ⟨g,2,none⟩),UV m.aE] 167)).drew w.heap.size #[.pointer (some ⟨g,2,none⟩),UV m.aE] 167):=by
  have h1:=ah.new (w.setCell ⟨g,0,none⟩ (.int .u64 5764607523034234880)) #[.pointer (some ⟨g,2,none⟩),UV m.aE] 167;have e:(w.setCell ⟨g,0,none⟩ (.int .u64 5764607523034234880)).heap.size=w.heap.size:=by simp
  rw[e]at h1;exact h1.kept ((Kept.refl [] _).drew) (by simp)
 clear h;go_enter Tryz.func96,Tryz.ntmps96
 go_wp2_with fail
 go_region
 go_wp2_with fail
 go_loopw [3] (fun iv wr=>∃q:Nat,iv=.int .i64 (q:Int)/\q<=60/\fq wr g { m with cL:=jW m q}/\ah wr w.heap.size #[.pointer (some ⟨g,2,none⟩),UV m.aE] 167/\Kept [g] w wr) (fun iv _=>(60-intOf iv).toNat)
 case atStart=>
  obtain⟨h1,h2⟩:=dy.out (.cells #[.pointer (some ⟨g,2,none⟩),UV m.aE] 167);exact⟨0,rfl,by omega,h1,hwy.out,h2⟩
 case round=>
  obtain⟨q,rfl,hq,hI,hB,hK⟩:=hrel;clear dy hwy c0 f0 b0;by_cases bO:(q:Int)<60
  ·have hc:Hid (∀w',Kept [] wr w'->Calls Tryz.prog 124 #[WV g 2 m.aE,.int .u64 ((jW m q).toNat:Int)] w' fun e w2=>e=.returned (.int .u64 ((cn m m.aE (jW m q)).toNat:Int))/\Kept [] w' w2):=fun w' k=>vG m g 2 m.aE (jW m q) w' (fL.kept hI.bP k (ah.lt hI));have tL:=p8 (jW m q) (cn m m.aE (jW m q));have e1:Hid (jW m (q+1)=jW m q|||cn m m.aE (jW m q)):=rfl
   have d0:wr.cell? ⟨w.heap.size,0,none⟩=some (.pointer (some ⟨g,2,none⟩)):=hB.cell 0;have d1:wr.cell? ⟨w.heap.size,1,none⟩=some (UV m.aE):=hB.cell 1;have b0:wr.cell? ⟨g,0,none⟩=some (UV (jW m q)):=hI.cL;have KF:g<wr.heap.size:=ah.lt hI;have cC:Hid (fq _ _ _):=hI;have Gs:Hid (ah _ _ _ _):=hB;have Cx:Hid (Kept _ _ _):=hK;clear hI hB hK;generalize cn m m.aE (jW m q)=V at *;generalize jW m q|||V=Z at *
   go_wp2_with fail
   go_region_law (go_simp;go_at_call 124;refine(hc.out _ ((Kept.refl [] _).drew)).mono ?_;rintro _ w5 ⟨rfl,k5⟩;have K5:=((Kept.refl [] wr).drew).trans k5;have r0:w5.cell? ⟨g,0,none⟩=some (UV (jW m q)):=(K5.cell KF 0).trans b0;have q0:w5.frozen? ⟨g,0,none⟩=false:=(ah.kept cC.out K5 (by simp)).frozen 0)
   all_goals
    go_wp2
    refine⟨⟨q+1,by go_num,by omega,?_,?_,?_⟩,?_⟩
    ·rw[e1.out];exact fq.set (ah.kept cC.out K5 (by simp)) 0 _ (DE _ Z)
    ·exact(Gs.out.kept K5 (by simp)).other _ _ (by omega)
    ·exact(Cx.out.trans (K5.mono (by simp))).setCell (Or.inl (by simp)) _
    ·simp only[intOf];omega
  ·have p':q=60:=by omega
   subst p';have KF:g<wr.heap.size:=ah.lt hI;have b0:wr.cell? ⟨g,0,none⟩=some (UV (rL m)):=hI.cL;have h1:Hid (Calls Tryz.prog 142 #[.pointer (some ⟨g,0,none⟩),.int .u64 (m.ends.toNat:Int)] wr fun e w2=>e=.returned (.int .u64 ((bA m m.ends).toNat:Int))/\Kept [] wr w2):=by
    have:=vH { m with cL:=jW m 60} g m.ends wr hI;rw[vF (m:=m) (m':={m with cL:=jW m 60}) rfl rfl]at this;exact this
   have h2:Hid (∀w',fq w' g { m with cL:=rL m,en:=bA m m.ends}->Calls Tryz.prog 142 #[.pointer (some ⟨g,0,none⟩),.int .u64 ((m.ends|||m.aE).toNat:Int)] w' fun e w2=>e=.returned (.int .u64 ((bA m (m.ends|||m.aE)).toNat:Int))/\Kept [] w' w2):=fun w' hi=>by
    have:=vH { m with cL:=rL m,en:=bA m m.ends} g (m.ends|||m.aE) w' hi
    rw[vF (m:=m) (m':={m with cL:=rL m,en:=bA m m.ends}) rfl rfl]at this;exact this
   have dy:Hid (∀w1,Kept [] wr w1->fq (w1.setCell ⟨g,1,none⟩ (UV (bA m m.ends))) g { m with cL:=rL m,en:=bA m m.ends}/\Kept [g] wr (w1.setCell ⟨g,1,none⟩ (UV (bA m m.ends)))):=fun w1 k=>
    ⟨(fq.set (m:={m with cL:=jW m 60}) (ah.kept hI k (by simp)) 1 _ (Hy _ (bA m m.ends))),(k.mono (by simp)).setCell (Or.inl (by simp)) _⟩
   have aA:Hid (lU m={m with cL:=rL m,en:=if rL m&&&bA m (m.ends|||m.aE)=0#64 then bA m m.ends else bA m m.ends|||mS}):=rfl
   have tL:=p8 m.ends m.aE;have hand:=Au (rL m) (bA m (m.ends|||m.aE))
   have hof:=p8 (bA m m.ends) mS;rw[Ky]at hof;have c1:wr.cell? ⟨g,322,none⟩=some (UV m.ends):=hI.ends;have c2:wr.cell? ⟨g,321,none⟩=some (UV m.aE):=hI.aE;have c3:wr.cell? ⟨g,1,none⟩=some (UV m.en):=hI.en;have f1:wr.frozen? ⟨g,1,none⟩=false:=hI.frozen 1;have cC:Hid (fq _ _ _):=hI;have Cx:Hid (Kept _ _ _):=hK;clear hI hB hK;generalize m.ends|||m.aE=EB at *
   generalize bA m EB=E2 at *;generalize hE1:bA m m.ends=E1 at *;generalize E1|||mS=EF at *
   generalize rL m=B0 at aA b0 dy h2 hand;generalize B0&&&E2=X at *;clear hE1;by_cases hX:X=0#64
   ·have hX0:(X.toNat:Int)=0:=(ox _).2 hX;rw[if_pos hX]at aA;clear hX hof;go_wp2_with (go_at_call 142;refine h1.out.mono ?_;rintro _ w1 ⟨rfl,k1⟩;have r0:=(k1.cell KF 0).trans b0;have r1:=(k1.cell KF 1).trans c3;have r2:=(k1.cell KF 322).trans c1;have r3:=(k1.cell KF 321).trans c2;have q1:w1.frozen? ⟨g,1,none⟩=false:=(ah.kept cC.out k1 (by simp)).frozen 1;have s1:Hid (_/\_):=dy.out _ k1)
    go_region_law (go_simp;go_at_call 142;refine(h2.out _ (fq.yE s1.out.1)).mono ?_;rintro _ w5 ⟨rfl,k5⟩;have K5:Hid (fq _ _ _/\Kept _ _ _):=⟨ah.kept (fq.yE s1.out.1) k5 (by simp),s1.out.2.trans ((((Kept.refl [] _).drew).trans k5).mono (by simp))⟩;have r5:w5.cell? ⟨g,1,none⟩=some (UV E1):=K5.out.1.en;have r6:w5.cell? ⟨g,0,none⟩=some (UV B0):=K5.out.1.cL;have q5:w5.frozen? ⟨g,1,none⟩=false:=K5.out.1.frozen 1)
    all_goals
     go_wp2
     go_end0;exact⟨rfl,by rw[aA.out];exact K5.out.1,Cx.out.trans K5.out.2⟩
   ·have hX0:(X.toNat:Int)≠0:=fun hc=>hX ((ox _).1 hc);rw[if_neg hX]at aA;clear hX;go_wp2_with (go_at_call 142;refine h1.out.mono ?_;rintro _ w1 ⟨rfl,k1⟩;have r0:=(k1.cell KF 0).trans b0;have r1:=(k1.cell KF 1).trans c3;have r2:=(k1.cell KF 322).trans c1;have r3:=(k1.cell KF 321).trans c2;have q1:w1.frozen? ⟨g,1,none⟩=false:=(ah.kept cC.out k1 (by simp)).frozen 1;have s1:Hid (_/\_):=dy.out _ k1)
    go_region_law (go_simp;go_at_call 142;refine(h2.out _ (fq.yE s1.out.1)).mono ?_;rintro _ w5 ⟨rfl,k5⟩;have K5:Hid (fq _ _ _/\Kept _ _ _):=⟨ah.kept (fq.yE s1.out.1) k5 (by simp),s1.out.2.trans ((((Kept.refl [] _).drew).trans k5).mono (by simp))⟩;have r5:w5.cell? ⟨g,1,none⟩=some (UV E1):=K5.out.1.en;have r6:w5.cell? ⟨g,0,none⟩=some (UV B0):=K5.out.1.cL;have q5:w5.frozen? ⟨g,1,none⟩=false:=K5.out.1.frozen 1)
    all_goals
     go_wp2
     go_end0;exact⟨rfl,by rw[aA.out];exact fq.set K5.out.1 1 _ (Hy _ EF),(Cx.out.trans K5.out.2).setCell (Or.inl (by simp)) _⟩
theorem RW(m:MP)(q:Nat)(hc:m.last.getLsbD q=true\/q=61)(s:aZ)(hs:s=(lH m q).next q|||cX)(hq:q<63):(aI (lH m q)).setIfInBounds (2+q) (UV s)=aI (lH m (q+1)):=by
 subst hs;refine um _ _ q _ hq ⟨rfl,rfl⟩ rfl (fun j _=>?_) rfl rfl rfl;unfold lH;simp only[];by_cases h:j=q
 ·subst h;have e:¬(j<j/\(m.last.getLsbD j=true\/j=61)):=fun hc=>Nat.lt_irrefl _ hc.1;rw[if_pos ⟨Nat.lt_succ_self _,hc⟩,if_pos rfl,if_neg e]
 ·rw[if_neg h];by_cases h2:j<q/\(m.last.getLsbD j=true\/j=61)
  ·rw[if_pos ⟨by omega,h2.2⟩,if_pos h2]
  ·rw[if_neg (fun h3=>h2 ⟨by omega,h3.2⟩),if_neg h2]
theorem RX(m:MP)(q:Nat)(hc:¬(m.last.getLsbD q=true\/q=61)):lH m (q+1)=lH m q:=by
 unfold lH;congr 1
 funext j
 by_cases h2:j<q/\(m.last.getLsbD j=true\/j=61)
 ·rw[if_pos ⟨by omega,h2.2⟩,if_pos h2]
 ·rw[if_neg (fun h3=>h2 ⟨by
   have:=h3.1;have:j≠q:=fun he=>hc (he ▸ h3.2);omega,h3.2⟩),if_neg h2]
theorem OE(m:MP)(q:Nat)(hq:q<256)(s:aZ)(hs:s=(lO m q).bn q|||(cq|||cX)):(aI (lO m q)).setIfInBounds (65+q) (UV s)=aI (lO m (q+1)):=by
 subst hs;refine yD _ _ q _ hq ⟨rfl,rfl⟩ rfl (fun j _=>?_) rfl rfl rfl;unfold lO;simp only[];by_cases h:j=q
 ·subst h;rw[if_pos (Nat.lt_succ_self _),if_pos rfl,if_neg (by omega)]
 ·rw[if_neg h];by_cases h2:j<q
  ·rw[if_pos (by omega),if_pos h2]
  ·rw[if_neg (by omega),if_neg h2]
theorem OG(m:MP):(aI m).setIfInBounds 62 (UV (m.next 60|||cq))=aI (lH m 0):=by
 show(aI m).setIfInBounds (2+60) _=_;refine um _ _ 60 _ (by decide) ⟨rfl,rfl⟩ rfl (fun j _=>?_) rfl rfl rfl;unfold lH;simp only[];rw[if_neg (by omega)];by_cases h:j=60
 ·subst h;rfl
 ·rw[if_neg h,if_neg h]
theorem nR(m:MP)(g:Nat)(w:World)(h:fq w g m):
 Calls Tryz.prog 97 #[.pointer (some ⟨g,0,none⟩)] w fun e w'=>e=.returned (.tuple #[])/\fq w' g (vC m)/\Kept [g] w w':=by
 have hg:g<w.heap.size:=ah.lt h;have c0:w.cell? ⟨g,62,none⟩=some (UV (m.next 60)):=h.next (i:=60) (by decide);have f0:=h.frozen 62;have ho:=p8 (m.next 60) cq;rw[AD]at ho;have dy:Hid (fq (w.drew.setCell ⟨g,62,none⟩ (UV (m.next 60|||cq))) g (lH m 0)/\Kept [g] w (w.drew.setCell ⟨g,62,none⟩ (UV (m.next 60|||cq)))):=⟨fq.set h.yE 62 _ (OG m),((Kept.refl [g] w).drew).setCell (Or.inl (by simp)) _⟩
 clear h;generalize m.next 60|||cq=Z0 at *
 go_enter Tryz.func97,Tryz.ntmps97
 go_wp2_with fail
 go_region
 go_wp2_with fail
 go_loopw [2] (fun iv wr=>∃q:Nat,iv=.int .i64 (q:Int)/\q<=63/\fq wr g (lH m q)/\Kept [g] w wr) (fun iv _=>(63-intOf iv).toNat)
 case atStart=>exact⟨0,rfl,by omega,dy.out.1,dy.out.2⟩
 case round=>
  obtain⟨q,rfl,hq,hI,hK⟩:=hrel;clear dy c0 f0 ho;by_cases bO:(q:Int)<63
  ·have tw:q<63:=by omega
   have d0:wr.cell? ⟨g,323,none⟩=some (UV m.last):=hI.last;have d1:wr.cell? ⟨g,2+q,none⟩=some (UV ((lH m q).next q)):=hI.next tw;have f1:=hI.frozen (2+q);have tL:=p8 ((lH m q).next q) cX;rw[AF]at tL;have rF:Hid (∀w,Calls Tryz.prog 143 #[.int .u64 (m.last.toNat:Int),.int .i64 (q:Int)] w fun e w'=>e=.returned (.bool (m.last.getLsbD q))/\w'=w):=fun w=>EW m.last q (by omega) w;have iw:Hid ((m.last.getLsbD q=true\/q=61)->fq (wr.drew.setCell ⟨g,2+q,none⟩ (UV ((lH m q).next q|||cX))) g (lH m (q+1))/\Kept [g] w (wr.drew.setCell ⟨g,2+q,none⟩ (UV ((lH m q).next q|||cX)))):=fun hb=>⟨fq.set hI.yE _ _ (RW m q hb _ rfl tw),(hK.drew).setCell (Or.inl (by simp)) _⟩
   have cY:Hid (¬(m.last.getLsbD q=true\/q=61)->fq wr g (lH m (q+1))/\Kept [g] w wr):=fun hb=>by rw[RX m q hb];exact⟨hI,hK⟩
   clear hI hK;generalize (lH m q).next q|||cX=Z at *
   generalize (lH m q).next q=V at *;cases fP:m.last.getLsbD q with
   | true=>
     have H:Hid (_/\_):=iw.out (Or.inl fP);rw[fP]at rF;clear iw cY fP;go_wp2_with (go_at_call 143;refine(rF.out _).mono ?_;rintro _ _ ⟨rfl,rfl⟩)
     go_region
     go_wp2
     refine⟨⟨q+1,by go_num,by omega,H.out.1,H.out.2⟩,?_⟩;simp only[intOf];omega
   | false=>
     by_cases h61:(q:Int)=61
     ·have H:Hid (_/\_):=iw.out (Or.inr (by omega));have hb61:((q:Int)==61)=true:=by simp[h61]
      rw[fP]at rF;clear iw cY fP h61;go_wp2_with (go_at_call 143;refine(rF.out _).mono ?_;rintro _ _ ⟨rfl,rfl⟩)
      go_region
      go_wp2
      refine⟨⟨q+1,by go_num,by omega,H.out.1,H.out.2⟩,?_⟩;simp only[intOf];omega
     ·have H:Hid (_/\_):=cY.out (fun hc=>by
       rcases hc with hc|hc
       ·rw[fP]at hc;exact absurd hc (by decide)
       ·omega)
      rw[fP]at rF;clear iw cY fP;go_wp2_with (go_at_call 143;refine(rF.out _).mono ?_;rintro _ _ ⟨rfl,rfl⟩)
      refine⟨⟨q+1,by go_num,by omega,H.out.1,H.out.2⟩,?_⟩;simp only[intOf];omega
  ·have p':q=63:=by omega
   subst p';have xC:Hid (fq wr g (lO (lH m 63) 0)/\Kept [g] w wr):=⟨by
    have e:lO (lH m 63) 0=lH m 63:=by unfold lO;congr 1
    rw[e];exact hI,hK⟩
   clear hI hK bO hq;have eA:Hid (vC m=lO (lH m 63) 256):=rfl;generalize lH m 63=M at *;go_wp2_with fail
   go_loopw [3] (fun iv wr=>∃q:Nat,iv=.int .i64 (q:Int)/\q<=256/\fq wr g (lO M q)/\Kept [g] w wr) (fun iv _=>(256-intOf iv).toNat)
   case atStart=>exact⟨0,rfl,by omega,xC.out.1,xC.out.2⟩
   case round=>
    obtain⟨q,rfl,hq,hI,hK⟩:=hrel;clear xC;by_cases bO:(q:Int)<256
    ·have tw:q<256:=by omega
     have d1:=hI.bn tw;have f1:=hI.frozen (65+q);have tL:=p8 ((lO M q).bn q) (cq|||cX)
     have hcn:(((cq|||cX:aZ).toNat:Nat):Int)=3458764513820540928:=rfl
     rw[hcn]at tL;have H:Hid (fq (wr.drew.setCell ⟨g,65+q,none⟩ (UV ((lO M q).bn q|||(cq|||cX)))) g (lO M (q+1))/\Kept [g] w (wr.drew.setCell ⟨g,65+q,none⟩ (UV ((lO M q).bn q|||(cq|||cX))))):=⟨fq.set hI.yE _ _ (OE M q tw _ rfl),(hK.drew).setCell (Or.inl (by simp)) _⟩
     clear hI hK hcn;generalize (lO M q).bn q|||(cq|||cX)=Z at *
     generalize (lO M q).bn q=V at *;go_wp2_with fail
     go_region
     go_wp2
     refine⟨⟨q+1,by go_num,by omega,H.out.1,H.out.2⟩,?_⟩;simp only[intOf];omega
    ·have p':q=256:=by omega
     subst p';have cC:Hid (fq _ _ _):=hI;have Cx:Hid (Kept _ _ _):=hK;clear hI hK;go_wp2
     go_end0;exact⟨rfl,by rw[eA.out];exact cC.out,Cx.out⟩
theorem VS(m:MP)(g c:Nat)(hc:c<256)(w:World)(h:fq w g m):
 Calls Tryz.prog 125 #[.pointer (some ⟨g,0,none⟩),.int .u8 (c:Int)] w fun e w'=>e=.returned (WV g 2 (m.bn c))/\Kept [] w w':=by
 have hg:g<w.heap.size:=ah.lt h;have c0:=h.bn hc;clear h;generalize m.bn c=V at *;have hk:Hid (Kept [] w (w.alloc (.cells #[.pointer (some ⟨g,2,none⟩),UV V] 167)).drew):=((Kept.refl [] w).alloc _).drew;go_enter Tryz.func125,Tryz.ntmps125
 go_wp2_with fail
 go_region
 go_wp2
 refine bodyPost_ret (v:=WV g 2 V) (by simp[results,Tryz.results125,go_sem]) rfl ⟨rfl,hk.out⟩
theorem sV(m:MP)(q:Nat)(s:aZ)(hq:q<63):(aI m).setIfInBounds (2+q) (UV s)=aI (dL m q s):=
 um _ _ q s hq ⟨rfl,rfl⟩ rfl (fun _ _=>rfl) rfl rfl rfl
structure vJ (w:World)(B:Nat)(v:Value)(ns:List AN)(xs:List IV):Prop where
 row:w.ownsRow B 164 8 v ns.length (bZ ns xs)
 len:xs.length=ns.length
 items:∀(i:Nat) (n:AN) (x:IV),ns[i]?=some n->xs[i]?=some x->cj w B x n.cM
theorem o6{w w':World}{B e z n:Nat}{v:Value}{ys:List Value}(h:w.ownsRow B e z v n ys)(k:Kept [] w w'):w'.ownsRow B e z v n ys:=by
 refine⟨h.1,?_⟩;rcases h.2 with h1|⟨g,cap,cur,h1,h2,h3,h4⟩
 ·exact Or.inl h1
 ·have bO:g<w.heap.size:=(Array.getElem?_eq_some_iff.1 h3).1;exact Or.inr ⟨g,cap,cur,h1,h2,(k.block g bO (by simp)).trans h3,h4⟩
theorem vJ.kept{w w':World}{B:Nat}{v:Value}{ns:List AN}{xs:List IV}(h:vJ w B v ns xs)(k:Kept [] w w'):vJ w' B v ns xs:=
 ⟨o6 h.row k,h.len,fun i n x a c=>o6 (h.items i n x a c) k⟩
theorem E'(m:MP)(st:aZ)(n:AN)(fold:Bool):∀q,(dx m st n fold q).whole=m.whole:=fun q=>by
 unfold dx;rfl
theorem Fa(m:MP)(st:aZ)(n:AN)(fold:Bool):(fg m st n fold).whole=m.whole:=by
 unfold fg;repeat' split
 all_goals first | rfl | exact E' _ _ _ _ _
theorem lW(ns:List AN)(P:GP)(fold whole:Bool):∀q,(bf ns P fold whole q).whole=whole
 | 0=>rfl
 | q+1=>by
   rw[bf];cases ns[P.node q]? with
   | none=>exact lW ns P fold whole q
   | some n=>exact(Fa _ _ _ _).trans (lW ns P fold whole q)
theorem OH(ns:List AN)(xs:List IV)(B:Nat)(v:Value)(size:Int)(fold whole:Bool)(w:World)(h:vJ w B v ns xs)(hl:ns.length<=900)(hn:vB ns)(Hz:∀n,n∈ns->n.cM.length<=1000)(dD:(gE ns ns.length).count<=60)(HA:∀i,(gE ns ns.length).node i<=10000):
 Calls Tryz.prog 56 #[.agg #[v,.int .i64 size],.bool fold,.bool whole] w fun e w'=>e=.returned (.agg (aI (iO (iP ns (gE ns ns.length) fold whole))))/\Kept [] w w':=by
 have hz:=bI;have hzm:=uo;have hw:Hid (∀w',Kept [] w w'->aB _ _ w' _):=fun w' k=>Oy ns xs B v w' (o6 h.row k) h.len hl hn;generalize hP:gE ns ns.length=P at *;obtain⟨va,cap,hv⟩:∃a cap,v=.slice a ns.length cap:=by
  rcases h.row.2 with⟨h1,h2⟩|⟨g,cap,_,h1,_⟩
  ·exact⟨none,0,by rw[h1,h2]⟩
  ·exact⟨_,cap,h1⟩
 subst hv;have k0:Kept [] w ((w.alloc (.cells #[.slice va ns.length cap,.int .i64 size] 93)).alloc (.cells (aI {}) 101)):=((Kept.refl _ _).alloc _).alloc _;have p0:ah ((w.alloc (.cells #[.slice va ns.length cap,.int .i64 size] 93)).alloc (.cells (aI {}) 101)) w.heap.size #[.slice va ns.length cap,.int .i64 size] 93:=(ah.new _ _ _).alloc _;have r0:fq ((w.alloc (.cells #[.slice va ns.length cap,.int .i64 size] 93)).alloc (.cells (aI {}) 101)) (w.heap.size+1) {}:=ah.oy w _ _ _;have k0:Hid (Kept _ _ _):=k0;have p0:Hid (ah _ _ _ _):=p0;have r0:Hid (fq _ _ _):=r0;cases hem:P.empty with
 | false=>
   go_enter Tryz.func56,Tryz.ntmps56
   go_wp2_with (first
    | (go_at_call 94
       refine(hw.out _ k0.out).mono ?_;rintro e w1 ⟨rfl,k1⟩;have p1:=p0.out.kept k1 (by simp);have r1:=ah.kept r0.out k1 (by simp);have K1:=k0.out.trans k1;have L1:=ah.lt r1)
    | (with_reducible refine ag ?_ (.tmp 7) (.tmp 13) ?_ w1.heap.size ?_ {} P ?_ ?_ ?_
       ·rfl
       ·rfl
       ·rfl
       ·rfl
       ·exact ah.new w1 (ae {}) 158
       intro w2 jm gH ji;have p2:=(p1.alloc (.cells (ae {}) 158)).kept gH (by simp;omega);have r2:=ah.kept (ah.alloc r1 (.cells (ae {}) 158)) gH (by simp;omega);have K2:Kept [] w w2:=(K1.alloc (.cells (ae {}) 158)).cf gH (by omega);have c3:=jm.dR;have L2:=jm.lt;clear ji gH)
    | (refine nQ rfl (.tmp 15) rfl whole P.last rfl ?_)
    | (with_reducible refine cJ ?_ (.tmp 8) (.tmp 16) ?_ w2.heap.size ?_ {} { whole:=whole,last:=P.last} ?_ ?_ ?_
       ·rfl
       ·rfl
       ·rfl
       ·rfl
       ·exact ah.new w2 (aI {}) 101
       intro w3 pS Dx Rf;have I3:kX w w3 w1.heap.size w2.heap.size (.slice va ns.length cap) size P { whole:=whole,last:=P.last}:=⟨pS,(jm.alloc (.cells (aI {}) 101)).kept Dx (by simp;omega),(p2.alloc (.cells (aI {}) 101)).kept Dx (by simp;omega),ah.kept (ah.alloc r2 (.cells (aI {}) 101)) Dx (by simp;omega),(K2.alloc (.cells (aI {}) 101)).cf Dx (by omega),L1,L2⟩;clear c3 Rf Dx;have d1:=I3.pt.dz;rw[hem]at d1;have d2:=I3.pt.dQ;have d3:=I3.mi.next (i:=60) (by decide);have f3:=I3.mi.frozen 62;have d4:=I3.mi.last;have f4:=I3.mi.frozen 323;have H0:Hid (kX w (w3.setCell ⟨w2.heap.size,62,none⟩ (UV P.first)) w1.heap.size w2.heap.size (.slice va ns.length cap) size P (bf ns P fold whole 0)):=by
        have e:bf ns P fold whole 0=dL { whole:=whole,last:=P.last} 60 P.first:=by simp[bf,uq,hem,dL]
        rw[e];exact I3.set 62 (UV P.first) (sV _ 60 _ (by decide))))
   go_loopw [9] (fun iv wr=>∃q:Nat,iv=.int .i64 (q:Int)/\q<=P.count/\kX w wr w1.heap.size w2.heap.size (.slice va ns.length cap) size P (bf ns P fold whole q)) (fun iv _=>((P.count:Int)-intOf iv).toNat)
   case atStart=>exact⟨0,rfl,Nat.zero_le _,H0.out⟩
   case round=>
    obtain⟨q,rfl,hq,hI⟩:=hrel;clear H0 k0 p0 r0 hw K1 K2 p1 r1 k1 p2 r2 jm pS I3 d1 d2 d3 d4 f3 f4 hz hzm;have QR:w.heap.size<=w2.heap.size:=by omega
    by_cases bO:(q:Int)<(P.count:Int)
    ·have tw:q<P.count:=by omega
     have RY:q<60:=by omega
     have hq60i:(q:Int)<60:=by omega
     have c0:=hI.pt.qy;have c1:wr.cell? ⟨w1.heap.size,4+q,none⟩=some (UV (P.next q)):=by rw[hI.pt.cell,mu _ _ RY]
     have c2:wr.cell? ⟨w1.heap.size,64+q,none⟩=some (.int .i64 (P.node q:Int)):=by rw[hI.pt.cell,mw _ _ RY]
     have c3:wr.cell? ⟨w.heap.size,0,none⟩=some (.slice va ns.length cap):=by rw[hI.pat.cell];rfl
     have c4:=hI.mi.next (i:=q) (by omega);have f4:=hI.mi.frozen (2+q);have L3:=hI.lt;have L4:=hI.ltg;have I9:=hI.set (2+q) (UV (P.next q)) (sV _ q _ (by omega));have hnq:=HA q;by_cases DH:(P.node q:Int)<(ns.length:Int)
     ·have lS:P.node q<ns.length:=by omega
      obtain⟨n,sW⟩:∃n,ns[P.node q]?=some n:=⟨_,List.getElem?_eq_getElem lS⟩;obtain⟨x,QG⟩:∃x,xs[P.node q]?=some x:=⟨_,List.getElem?_eq_getElem (by have:=h.len;omega)⟩;obtain⟨gN,qM,hv⟩:=aO h.row (by omega);simp only[Value.slice.injEq]at hv;obtain⟨rfl,_,rfl⟩:=hv;have RJ:=uj (ui h.row sW QG) I9.k (by simp) (by simp[AN.cells]);have AP:=h.items _ _ _ sW QG;have fx:(fF x).ownBlock≠some w2.heap.size:=fun hc=>by have:=AP.lt _ hc;omega
      have KG:Hid (Calls _ _ _ _ _):=DD _ w2.heap.size (1#64 <<< q) n x fold B _ I9.mi (o6 AP I9.k) (Hz n (List.mem_of_getElem? sW)) fx;have eB:Hid (bf ns P fold whole (q+1)=fg (dL (bf ns P fold whole q) q (P.next q)) (1#64 <<< q) n fold):=by
       show bf ns P fold whole (q+1)=_;rw[bf,sW]
      have YJ:Hid (kX _ _ _ _ _ _ _ _):=I9;have DA:IntKind.wrap .u64 ((2:Int) ^ q)=((1#64 <<< q:aZ).toNat:Int):=by rw[<-E7 (by omega)];exact As _ (BitVec.isLt _)
      have E8:IntKind.wrap .u64 (1*(2:Int) ^ q)=((1#64 <<< q:aZ).toNat:Int):=by rw[Int.one_mul];exact DA
      generalize hSS:(1#64 <<< q:aZ)=S at *;clear hSS sW QG AP fx h Hz hI I9 hn dD HA;go_wp2_with (first
       | (with_reducible refine ig ?_ (.tmp 65) ?_ gN (P.node q*8) ?_ n x ?_ ?_
          ·rfl
          ·rfl
          ·first | rfl | (simp[Act.eval])
          ·exact RJ)
       | (go_at_call 95
          with_reducible refine KG.out.mono ?_
          rintro e w8 ⟨rfl,h8,k8⟩;have I10:Hid (kX _ _ _ _ _ _ _ _):=YJ.out.cf h8 k8))
      refine⟨⟨q+1,by go_num,by omega,by rw[eB.out];exact I10.out⟩,?_⟩;simp only[intOf];omega
     ·have lS:ns[P.node q]?=none:=List.getElem?_eq_none (by omega);have eB:Hid (bf ns P fold whole (q+1)=dL (bf ns P fold whole q) q (P.next q)):=by
       show bf ns P fold whole (q+1)=_;rw[bf,lS]
      have YJ:Hid (kX _ _ _ _ _ _ _ _):=I9;have DH:(ns.length:Int)<=(P.node q:Int):=by omega
      clear lS h Hz hI I9 hn dD HA;go_wp2
      refine⟨⟨q+1,by go_num,by omega,by rw[eB.out];exact YJ.out⟩,?_⟩;simp only[intOf];omega
    ·have p':P.count=q:=by omega
     have eB:Hid (iP ns P fold whole=bf ns P fold whole q):=by show iP ns P fold whole=_;unfold iP;rw[p']
     have c0:=hI.pt.qy;have cC:Hid (kX _ _ _ _ _ _ _ _):=hI;have hMw:(bf ns P fold whole q).whole=whole:=lW ns P fold whole q;clear p' hI h Hz hn dD HA;generalize bf ns P fold whole q=M at *;have eF:Hid (iO (iP ns P fold whole)=if whole=true then lU M else vC (lU M)):=by
      show iO _=_;rw[eB.out];unfold iO;rw[hMw]
     clear eB hMw;have hfe:Hid (∀w',fq w' w2.heap.size M->Calls _ _ _ w' _):=fun w' h=>vI M w2.heap.size w' h;have haa:Hid (∀w',fq w' w2.heap.size (lU M)->Calls _ _ _ w' _):=fun w' h=>nR (lU M) w2.heap.size w' h;cases whole with
     | true=>
       rw[if_pos rfl]at eF;generalize hN:lU M=N at *;clear hN haa;go_wp2_with (first
        | (go_at_call 96
           with_reducible refine(hfe.out _ cC.out.mi).mono ?_
           rintro e w7 ⟨rfl,h7,k7⟩;have I7:Hid (kX _ _ _ _ _ _ _ _):=cC.out.cf h7 k7)
        | (with_reducible refine ij ?_ (.tmp 8) ?_ w2.heap.size ?_ N ?_ ?_
           ·rfl
           ·rfl
           ·rfl
           ·exact I7.out.mi)
        | (with_reducible refine cJ ?_ (.tmp 6) (.tmp 73) ?_ (w.heap.size+1) ?_ {} N ?_ ?_ ?_
           ·rfl
           ·rfl
           ·rfl
           ·rfl
           ·exact I7.out.res
           intro w8 mO mP Ax;have E6:=I7.out.k.cf mP (by omega)))
       exact bodyPost_ret (v:=.agg (aI N)) (lV Tryz.results56 _ _ _ N rfl mO) rfl ⟨by rw[eF.out],E6⟩
     | false=>
       rw[if_neg (by decide)]at eF;generalize hN:vC (lU M)=N at *;clear hN;go_wp2_with (first
        | (go_at_call 96
           with_reducible refine(hfe.out _ cC.out.mi).mono ?_
           rintro e w7 ⟨rfl,h7,k7⟩;have I7:Hid (kX _ _ _ _ _ _ _ _):=cC.out.cf h7 k7)
        | (go_at_call 97
           with_reducible refine(haa.out _ I7.out.mi).mono ?_
           rintro e w6 ⟨rfl,h6,k6⟩;have I6:Hid (kX _ _ _ _ _ _ _ _):=I7.out.cf h6 k6)
        | (with_reducible refine ij ?_ (.tmp 8) ?_ w2.heap.size ?_ N ?_ ?_
           ·rfl
           ·rfl
           ·rfl
           ·exact I6.out.mi)
        | (with_reducible refine cJ ?_ (.tmp 6) (.tmp 73) ?_ (w.heap.size+1) ?_ {} N ?_ ?_ ?_
           ·rfl
           ·rfl
           ·rfl
           ·rfl
           ·exact I6.out.res
           intro w8 mO mP Ax;have E6:=I6.out.k.cf mP (by omega)))
       exact bodyPost_ret (v:=.agg (aI N)) (lV Tryz.results56 _ _ _ N rfl mO) rfl ⟨by rw[eF.out],E6⟩
 | true=>
   have tL:=p8 P.last cq;rw[AD]at tL;obtain⟨Z,hZ⟩:∃Z,Hid (P.last|||cq=Z):=⟨_,rfl⟩
   rw[hZ.out]at tL;go_enter Tryz.func56,Tryz.ntmps56
   go_wp2_with (first
    | (go_at_call 94
       refine(hw.out _ k0.out).mono ?_;rintro e w1 ⟨rfl,k1⟩;have p1:=p0.out.kept k1 (by simp);have r1:=ah.kept r0.out k1 (by simp);have K1:=k0.out.trans k1;have L1:=ah.lt r1)
    | (with_reducible refine ag ?_ (.tmp 7) (.tmp 13) ?_ w1.heap.size ?_ {} P ?_ ?_ ?_
       ·rfl
       ·rfl
       ·rfl
       ·rfl
       ·exact ah.new w1 (ae {}) 158
       intro w2 jm gH ji;have p2:=(p1.alloc (.cells (ae {}) 158)).kept gH (by simp;omega);have r2:=ah.kept (ah.alloc r1 (.cells (ae {}) 158)) gH (by simp;omega);have K2:Kept [] w w2:=(K1.alloc (.cells (ae {}) 158)).cf gH (by omega);have c3:=jm.dR;have L2:=jm.lt;clear ji gH)
    | (refine nQ rfl (.tmp 15) rfl whole P.last rfl ?_)
    | (with_reducible refine cJ ?_ (.tmp 8) (.tmp 16) ?_ w2.heap.size ?_ {} { whole:=whole,last:=P.last} ?_ ?_ ?_
       ·rfl
       ·rfl
       ·rfl
       ·rfl
       ·exact ah.new w2 (aI {}) 101
       intro w3 pS Dx Rf;have I3:kX w w3 w1.heap.size w2.heap.size (.slice va ns.length cap) size P { whole:=whole,last:=P.last}:=⟨pS,(jm.alloc (.cells (aI {}) 101)).kept Dx (by simp;omega),(p2.alloc (.cells (aI {}) 101)).kept Dx (by simp;omega),ah.kept (ah.alloc r2 (.cells (aI {}) 101)) Dx (by simp;omega),(K2.alloc (.cells (aI {}) 101)).cf Dx (by omega),L1,L2⟩;clear c3 Rf Dx;have d1:=I3.pt.dz;rw[hem]at d1;have d2:=I3.pt.dQ;have d3:=I3.mi.next (i:=60) (by decide);have f3:=I3.mi.frozen 62;have d4:=I3.mi.last;have f4:=I3.mi.frozen 323;have H0:Hid (kX w ((w3.setCell ⟨w2.heap.size,62,none⟩ (UV P.first)).setCell ⟨w2.heap.size,323,none⟩ (UV Z)) w1.heap.size w2.heap.size (.slice va ns.length cap) size P (bf ns P fold whole 0)):=by
        have e:bf ns P fold whole 0={dL { whole:=whole,last:=P.last} 60 P.first with last:=Z}:=by simp[bf,uq,hem,dL,hZ.out]
        rw[e];exact(I3.set 62 (UV P.first) (sV _ 60 _ (by decide))).set 323 (UV Z) (AM _ Z)))
   go_loopw [9] (fun iv wr=>∃q:Nat,iv=.int .i64 (q:Int)/\q<=P.count/\kX w wr w1.heap.size w2.heap.size (.slice va ns.length cap) size P (bf ns P fold whole q)) (fun iv _=>((P.count:Int)-intOf iv).toNat)
   case atStart=>exact⟨0,rfl,Nat.zero_le _,H0.out⟩
   case round=>
    obtain⟨q,rfl,hq,hI⟩:=hrel;clear H0 k0 p0 r0 hw K1 K2 p1 r1 k1 p2 r2 jm pS I3 d1 d2 d3 d4 f3 f4 hz hzm;have QR:w.heap.size<=w2.heap.size:=by omega
    by_cases bO:(q:Int)<(P.count:Int)
    ·have tw:q<P.count:=by omega
     have RY:q<60:=by omega
     have hq60i:(q:Int)<60:=by omega
     have c0:=hI.pt.qy;have c1:wr.cell? ⟨w1.heap.size,4+q,none⟩=some (UV (P.next q)):=by rw[hI.pt.cell,mu _ _ RY]
     have c2:wr.cell? ⟨w1.heap.size,64+q,none⟩=some (.int .i64 (P.node q:Int)):=by rw[hI.pt.cell,mw _ _ RY]
     have c3:wr.cell? ⟨w.heap.size,0,none⟩=some (.slice va ns.length cap):=by rw[hI.pat.cell];rfl
     have c4:=hI.mi.next (i:=q) (by omega);have f4:=hI.mi.frozen (2+q);have L3:=hI.lt;have L4:=hI.ltg;have I9:=hI.set (2+q) (UV (P.next q)) (sV _ q _ (by omega));have hnq:=HA q;by_cases DH:(P.node q:Int)<(ns.length:Int)
     ·have lS:P.node q<ns.length:=by omega
      obtain⟨n,sW⟩:∃n,ns[P.node q]?=some n:=⟨_,List.getElem?_eq_getElem lS⟩;obtain⟨x,QG⟩:∃x,xs[P.node q]?=some x:=⟨_,List.getElem?_eq_getElem (by have:=h.len;omega)⟩;obtain⟨gN,qM,hv⟩:=aO h.row (by omega);simp only[Value.slice.injEq]at hv;obtain⟨rfl,_,rfl⟩:=hv;have RJ:=uj (ui h.row sW QG) I9.k (by simp) (by simp[AN.cells]);have AP:=h.items _ _ _ sW QG;have fx:(fF x).ownBlock≠some w2.heap.size:=fun hc=>by have:=AP.lt _ hc;omega
      have KG:Hid (Calls _ _ _ _ _):=DD _ w2.heap.size (1#64 <<< q) n x fold B _ I9.mi (o6 AP I9.k) (Hz n (List.mem_of_getElem? sW)) fx;have eB:Hid (bf ns P fold whole (q+1)=fg (dL (bf ns P fold whole q) q (P.next q)) (1#64 <<< q) n fold):=by
       show bf ns P fold whole (q+1)=_;rw[bf,sW]
      have YJ:Hid (kX _ _ _ _ _ _ _ _):=I9;have DA:IntKind.wrap .u64 ((2:Int) ^ q)=((1#64 <<< q:aZ).toNat:Int):=by rw[<-E7 (by omega)];exact As _ (BitVec.isLt _)
      have E8:IntKind.wrap .u64 (1*(2:Int) ^ q)=((1#64 <<< q:aZ).toNat:Int):=by rw[Int.one_mul];exact DA
      generalize hSS:(1#64 <<< q:aZ)=S at *;clear hSS sW QG AP fx h Hz hI I9 hn dD HA;go_wp2_with (first
       | (with_reducible refine ig ?_ (.tmp 65) ?_ gN (P.node q*8) ?_ n x ?_ ?_
          ·rfl
          ·rfl
          ·first | rfl | (simp[Act.eval])
          ·exact RJ)
       | (go_at_call 95
          with_reducible refine KG.out.mono ?_
          rintro e w8 ⟨rfl,h8,k8⟩;have I10:Hid (kX _ _ _ _ _ _ _ _):=YJ.out.cf h8 k8))
      refine⟨⟨q+1,by go_num,by omega,by rw[eB.out];exact I10.out⟩,?_⟩;simp only[intOf];omega
     ·have lS:ns[P.node q]?=none:=List.getElem?_eq_none (by omega);have eB:Hid (bf ns P fold whole (q+1)=dL (bf ns P fold whole q) q (P.next q)):=by
       show bf ns P fold whole (q+1)=_;rw[bf,lS]
      have YJ:Hid (kX _ _ _ _ _ _ _ _):=I9;have DH:(ns.length:Int)<=(P.node q:Int):=by omega
      clear lS h Hz hI I9 hn dD HA;go_wp2
      refine⟨⟨q+1,by go_num,by omega,by rw[eB.out];exact YJ.out⟩,?_⟩;simp only[intOf];omega
    ·have p':P.count=q:=by omega
     have eB:Hid (iP ns P fold whole=bf ns P fold whole q):=by show iP ns P fold whole=_;unfold iP;rw[p']
     have c0:=hI.pt.qy;have cC:Hid (kX _ _ _ _ _ _ _ _):=hI;have hMw:(bf ns P fold whole q).whole=whole:=lW ns P fold whole q;clear p' hI h Hz hn dD HA;generalize bf ns P fold whole q=M at *;have eF:Hid (iO (iP ns P fold whole)=if whole=true then lU M else vC (lU M)):=by
      show iO _=_;rw[eB.out];unfold iO;rw[hMw]
     clear eB hMw;have hfe:Hid (∀w',fq w' w2.heap.size M->Calls _ _ _ w' _):=fun w' h=>vI M w2.heap.size w' h;have haa:Hid (∀w',fq w' w2.heap.size (lU M)->Calls _ _ _ w' _):=fun w' h=>nR (lU M) w2.heap.size w' h;cases whole with
     | true=>
       rw[if_pos rfl]at eF;generalize hN:lU M=N at *;clear hN haa;go_wp2_with (first
        | (go_at_call 96
           with_reducible refine(hfe.out _ cC.out.mi).mono ?_
           rintro e w7 ⟨rfl,h7,k7⟩;have I7:Hid (kX _ _ _ _ _ _ _ _):=cC.out.cf h7 k7)
        | (with_reducible refine ij ?_ (.tmp 8) ?_ w2.heap.size ?_ N ?_ ?_
           ·rfl
           ·rfl
           ·rfl
           ·exact I7.out.mi)
        | (with_reducible refine cJ ?_ (.tmp 6) (.tmp 73) ?_ (w.heap.size+1) ?_ {} N ?_ ?_ ?_
           ·rfl
           ·rfl
           ·rfl
           ·rfl
           ·exact I7.out.res
           intro w8 mO mP Ax;have E6:=I7.out.k.cf mP (by omega)))
       exact bodyPost_ret (v:=.agg (aI N)) (lV Tryz.results56 _ _ _ N rfl mO) rfl ⟨by rw[eF.out],E6⟩
     | false=>
       rw[if_neg (by decide)]at eF;generalize hN:vC (lU M)=N at *;clear hN;go_wp2_with (first
        | (go_at_call 96
           with_reducible refine(hfe.out _ cC.out.mi).mono ?_
           rintro e w7 ⟨rfl,h7,k7⟩;have I7:Hid (kX _ _ _ _ _ _ _ _):=cC.out.cf h7 k7)
        | (go_at_call 97
           with_reducible refine(haa.out _ I7.out.mi).mono ?_
           rintro e w6 ⟨rfl,h6,k6⟩;have I6:Hid (kX _ _ _ _ _ _ _ _):=I7.out.cf h6 k6)
        | (with_reducible refine ij ?_ (.tmp 8) ?_ w2.heap.size ?_ N ?_ ?_
           ·rfl
           ·rfl
           ·rfl
           ·exact I6.out.mi)
        | (with_reducible refine cJ ?_ (.tmp 6) (.tmp 73) ?_ (w.heap.size+1) ?_ {} N ?_ ?_ ?_
           ·rfl
           ·rfl
           ·rfl
           ·rfl
           ·exact I6.out.res
           intro w8 mO mP Ax;have E6:=I6.out.k.cf mP (by omega)))
       exact bodyPost_ret (v:=.agg (aI N)) (lV Tryz.results56 _ _ _ N rfl mO) rfl ⟨by rw[eF.out],E6⟩
structure Ready (ns:List AN):Prop where
 len:ns.length<=900
 fit:vB ns
 cM:∀n,n∈ns->n.cM.length<=1000
 count:(gE ns ns.length).count<=60
 node:∀i,(gE ns ns.length).node i<=10000
def RZ:Prop:=∀(t:ByteArray) (r:Nat×PS),t.size<=40->Ev t 0 0 Oi r->¬vq t r->au r.2.2 r.1<=60->Ready r.2.2
def VT:Prop:=∀(t:ByteArray) (r:Nat×PS),t.size<=40->Ev t 0 0 Oi r->¬vq t r->au r.2.2 r.1<=60->∀(fold whole:Bool) (l:ByteArray),rM (iO (iP r.2.2 (gE r.2.2 r.2.2.length) fold whole)) l=kU (iP r.2.2 (gE r.2.2 r.2.2.length) fold whole) l
theorem vK{w x:World}{k:Nat}{T:TypeId}{c0 c1:Value}(hk:w.heap.size<=k)(h:ah x k #[c0,c1] T)(hb:Below w.heap.size w x)(u0 u1:Value):
 ((x.setCell ⟨k,0,none⟩ u0).setCell ⟨k,1,none⟩ u1).cell? ⟨k,0,none⟩=some u0 /\
 ((x.setCell ⟨k,0,none⟩ u0).setCell ⟨k,1,none⟩ u1).cell? ⟨k,1,none⟩=some u1 /\
 Below w.heap.size w ((x.setCell ⟨k,0,none⟩ u0).setCell ⟨k,1,none⟩ u1):=by
 have h2:=(h.set 0 u0).set 1 u1;refine⟨by rw[h2.cell];rfl,by rw[h2.cell];rfl,(hb.setCell hk _).setCell hk _⟩
theorem OI(inv fold whole num:Bool)(mx:Int)(t:ByteArray)(w:World)(hm:mx<0):
 Calls Tryz.prog 55 #[.agg #[.bool inv,.bool fold,.bool whole,.bool num,.int .i64 mx],.string t] w fun e w'=>e=.returned (.tuple #[.agg #[.slice none 0 0,.int .i64 0],.int .i64 1])/\Below w.heap.size w w':=by
 have JH:Below w.heap.size w ((w.alloc (.cells #[.bool inv,.bool fold,.bool whole,.bool num,.int .i64 mx] 23)).alloc (.cells #[.slice none 0 0,.int .i64 0] 93)):=((Below.refl w.heap.size w).alloc (Nat.le_refl _) _).alloc (by simp) _;go_enter Tryz.func55,Tryz.ntmps55
 go_wp2
 refine bodyPost_ret (v:=.tuple #[.agg #[.slice none 0 0,.int .i64 0],.int .i64 1]) (by simp[results,Tryz.results55,go_sem]) rfl ⟨rfl,JH⟩
theorem KH(inv fold whole num:Bool)(mx:Int)(t:ByteArray)(w:World)(tV:0<=mx)(h:40<t.size)(hs:t.size<=maxLen):
 Calls Tryz.prog 55 #[.agg #[.bool inv,.bool fold,.bool whole,.bool num,.int .i64 mx],.string t] w fun e w'=>e=.returned (.tuple #[.agg #[.slice none 0 0,.int .i64 0],.int .i64 3])/\Below w.heap.size w w':=by
 go_enter Tryz.func55,Tryz.ntmps55
 go_wp2_with fail
 refine(Oj t _ h hs).mono ?_;rintro e w1 ⟨rfl,b1⟩;have OJ:=b1.size;simp at OJ;have JH:Below w.heap.size w w1:=(((Below.refl w.heap.size w).alloc (Nat.le_refl _) _).alloc (by simp) _).trans (b1.mono (by simp;omega));have uR:ah w1 (w.heap.size+1) #[.slice none 0 0,.int .i64 0] 93:=(b1.block (w.heap.size+1) (by simp)).trans (ah.oy w _ _ _);have g0:=uR.frozen 0;have g1:=uR.frozen 1;have g2:=uR.cell 0;have g3:=uR.cell 1;obtain⟨q0,q1,q2⟩:=vK (Nat.le_succ _) uR JH (.slice none 0 0) (.int .i64 0);clear b1 uR JH;go_wp2
 refine bodyPost_ret (v:=.tuple #[.agg #[.slice none 0 0,.int .i64 0],.int .i64 3]) (by simp[results,Tryz.results55,go_sem,q0,q1]) rfl ⟨rfl,q2⟩
theorem DI(inv fold whole num:Bool)(mx:Int)(t:ByteArray)(w:World)(tV:0<=mx)(h:t.size<=40):
 Calls Tryz.prog 55 #[.agg #[.bool inv,.bool fold,.bool whole,.bool num,.int .i64 mx],.string t] w fun e w'=>ET t w w' e:=by
 go_enter Tryz.func55,Tryz.ntmps55
 go_wp2_with fail
 refine(Rz t _ h).mono ?_;rintro e w1 ⟨b1,r,sP,lF,HC⟩;have OJ:=b1.size;simp at OJ;have JH:Below w.heap.size w w1:=(((Below.refl w.heap.size w).alloc (Nat.le_refl _) _).alloc (by simp) _).trans (b1.mono (by simp;omega));have uR:ah w1 (w.heap.size+1) #[.slice none 0 0,.int .i64 0] 93:=(b1.block (w.heap.size+1) (by simp)).trans (ah.oy w _ _ _);have g0:=uR.frozen 0;have g1:=uR.frozen 1;have g2:=uR.cell 0;have g3:=uR.cell 1;have hOut:Hid (∀w' e,Below w.heap.size w w'->_->ET t w w' e):=fun w' e hb h=>⟨hb,r,sP,lF,h⟩;clear b1 sP lF;rcases HC with⟨hb,rfl⟩|⟨hb,hz,rfl⟩|⟨hb,hz,b,ao,n,c,xs,HE,hn,rfl⟩
 ·obtain⟨q0,q1,q2⟩:=vK (Nat.le_succ _) uR JH (.slice none 0 0) (.int .i64 0);have iI:Hid (vq t r):=hb;clear hb uR JH;go_wp2
  refine bodyPost_ret (v:=.tuple #[.agg #[.slice none 0 0,.int .i64 0],.int .i64 2]) (by simp[results,Tryz.results55,go_sem,q0,q1]) rfl ?_;exact hOut.out _ _ q2 (Or.inl ⟨iI.out,rfl⟩)
 ·obtain⟨q0,q1,q2⟩:=vK (Nat.le_succ _) uR JH (.slice none 0 0) (.int .i64 0);have iI:Hid (¬vq t r/\60<au r.2.2 r.1):=⟨hb,hz⟩;clear hb hz uR JH;go_wp2
  refine bodyPost_ret (v:=.tuple #[.agg #[.slice none 0 0,.int .i64 0],.int .i64 3]) (by simp[results,Tryz.results55,go_sem,q0,q1]) rfl ?_;exact hOut.out _ _ q2 (Or.inr (Or.inl ⟨iI.out.1,iI.out.2,rfl⟩))
 ·simp at HE;obtain⟨q0,q1,q2⟩:=vK (Nat.le_succ _) uR JH (.slice ao n c) (.int .i64 (au r.2.2 r.1));have n3:=(hn.other (k:=w.heap.size+1) (by omega) 0 (.slice ao n c)).other (k:=w.heap.size+1) (by omega) 1 (.int .i64 (au r.2.2 r.1));have aA:=hOut.out _ (.returned (.tuple #[.agg #[.slice ao n c,.int .i64 (au r.2.2 r.1)],.int .i64 0])) q2 (Or.inr (Or.inr ⟨hb,hz,b,ao,n,c,xs,by omega,n3,rfl⟩));have aA:Hid _:=aA;clear hOut hb hz uR JH hn n3;generalize au r.2.2 r.1=Z at *;go_wp2
  refine bodyPost_ret (v:=.tuple #[.agg #[.slice ao n c,.int .i64 Z],.int .i64 0]) (by simp[results,Tryz.results55,go_sem,q0,q1]) rfl ?_;exact aA.out
theorem NV.VU{w:World}{b:Nat}{t:ByteArray}{s:RS}{ns:List AN}{v:Value}{xs:List IV}(h:NV w b t s ns v xs):vJ w (b+1) v ns xs:=⟨h.row,h.len,h.items⟩
end Go.Proofs.YtgifhgnccmnbiabGreatDoor
namespace Go.Proofs.YtgifhgnccmnbiabGreatDoor
inductive W (ns:List AN):Nat->List Nat->Prop
 | none {k n}:ns[k]?=some n->n.kind=0->W ns k []
 | step {k n}:ns[k]?=some n->(n.kind=1\/n.kind=2\/n.kind=3)->W ns k [k]
 | both {k n l r u v}:ns[k]?=some n->n.kind=4->n.left=((l:Nat):Int)->n.right=((r:Nat):Int)->W ns l u->W ns r v->W ns k (u++v)
 | left {k n l u}:ns[k]?=some n->n.kind=5->n.left=((l:Nat):Int)->W ns l u->W ns k u
 | right {k n r u}:ns[k]?=some n->n.kind=5->n.right=((r:Nat):Int)->W ns r u->W ns k u
 | rep {k n l} {us:List (List Nat)}:ns[k]?=some n->n.kind=6->n.left=((l:Nat):Int)->(∀u,u∈us->W ns l u)->n.least<=(us.length:Int)->(n.most = -1\/(us.length:Int)<=n.most)->W ns k us.flatten
section
variable {ns:List AN}{k:Nat}{n:AN}{u:List Nat}
theorem W.zero(hn:ns[k]?=some n)(hk:n.kind=0):W ns k u↔u=[]:=by
 constructor
 ·intro h;cases h with
  | none=>rfl
  | step a b=>rw[hn]at a;cases a;omega
  | both a b=>rw[hn]at a;cases a;omega
  | left a b=>rw[hn]at a;cases a;omega
  | right a b=>rw[hn]at a;cases a;omega
  | rep a b=>rw[hn]at a;cases a;omega
 ·rintro rfl;exact W.none hn hk
theorem W.one(hn:ns[k]?=some n)(hk:n.kind=1\/n.kind=2\/n.kind=3):W ns k u↔u=[k]:=by
 constructor
 ·intro h;cases h with
  | none a b=>rw[hn]at a;cases a;omega
  | step=>rfl
  | both a b=>rw[hn]at a;cases a;omega
  | left a b=>rw[hn]at a;cases a;omega
  | right a b=>rw[hn]at a;cases a;omega
  | rep a b=>rw[hn]at a;cases a;omega
 ·rintro rfl;exact W.step hn hk
theorem W.two(hn:ns[k]?=some n)(hk:n.kind=4){l r:Nat}(hl:n.left=(l:Int))(hr:n.right=(r:Int)):W ns k u↔∃x y,u=x++y/\W ns l x/\W ns r y:=by
 constructor
 ·intro h;cases h with
  | none a b=>rw[hn]at a;cases a;omega
  | step a b=>rw[hn]at a;cases a;omega
  | both a b c d x y=>
    rw[hn]at a;cases a;rw[hl]at c;rw[hr]at d;cases Int.ofNat_inj.1 c;cases Int.ofNat_inj.1 d;exact⟨_,_,rfl,x,y⟩
  | left a b=>rw[hn]at a;cases a;omega
  | right a b=>rw[hn]at a;cases a;omega
  | rep a b=>rw[hn]at a;cases a;omega
 ·rintro⟨x,y,rfl,h1,h2⟩;exact W.both hn hk hl hr h1 h2
theorem W.alt(hn:ns[k]?=some n)(hk:n.kind=5){l r:Nat}(hl:n.left=(l:Int))(hr:n.right=(r:Int)):W ns k u↔W ns l u\/W ns r u:=by
 constructor
 ·intro h;cases h with
  | none a b=>rw[hn]at a;cases a;omega
  | step a b=>rw[hn]at a;cases a;omega
  | both a b=>rw[hn]at a;cases a;omega
  | left a b c x=>rw[hn]at a;cases a;rw[hl]at c;cases Int.ofNat_inj.1 c;exact Or.inl x
  | right a b c x=>rw[hn]at a;cases a;rw[hr]at c;cases Int.ofNat_inj.1 c;exact Or.inr x
  | rep a b=>rw[hn]at a;cases a;omega
 ·rintro(h|h)
  ·exact W.left hn hk hl h
  ·exact W.right hn hk hr h
theorem W.many(hn:ns[k]?=some n)(hk:n.kind=6){l:Nat}(hl:n.left=(l:Int)):W ns k u↔∃m,n.least<=((m:Nat):Int)/\(n.most = -1\/(m:Int)<=n.most)/\xu (W ns l) m u:=by
 constructor
 ·intro h;cases h with
  | none a b=>rw[hn]at a;cases a;omega
  | step a b=>rw[hn]at a;cases a;omega
  | both a b=>rw[hn]at a;cases a;omega
  | left a b=>rw[hn]at a;cases a;omega
  | right a b=>rw[hn]at a;cases a;omega
  | rep a b c x y z=>rw[hn]at a;cases a;rw[hl]at c;cases Int.ofNat_inj.1 c;exact⟨_,y,z,_,rfl,rfl,x⟩
 ·rintro⟨m,h1,h2,us,rfl,rfl,h3⟩;exact W.rep hn hk hl h3 h1 h2
end
def dM(ns:List AN)(q:Nat):GP:=bX (ns.getD q AA) q (dF ns q)
theorem AQ(ns:List AN):∀q i,i<q->(dF ns q)[i]?=some (dM ns i)
 | 0,i,h=>by omega
 | q+1,i,h=>by
   rw[dF];by_cases hi:i<q
   ·rw[List.getElem?_append_left (by rw[gu];exact hi)];exact AQ ns q i hi
   ·obtain rfl:i=q:=by omega
    rw[List.getElem?_append_right (by rw[gu];omega),gu,Nat.sub_self];rfl
theorem ur(ns:List AN){q l:Nat}(h:l<q):aK (dF ns q) (l:Int)=dM ns l:=by
 unfold aK;rw[if_pos (by omega),Int.toNat_natCast,AQ ns q l h];rfl
theorem DJ(k:Nat):(mQ k).Fit:=by
 have h1:∀i,(1#64:aZ).getLsbD i=true->i<1:=fun i h=>by
  rw[BitVec.getLsbD_one]at h;simp at h;omega
 exact⟨by show(1:Nat)<=60;omega,h1,h1,fun s i h=>by simp[mQ]at h⟩
theorem KI(k:Nat)(u:List Nat):(mQ k).jq u↔u=[k]:=by
 have hb:(1#64:aZ).getLsbD 0=true:=by decide
 constructor
 ·rintro⟨l,hl,rfl⟩;cases l with
  | nil=>simp[GP.Acc,mQ]at hl
  | cons d r=>
    have hd:=(DJ k).first d hl.1;simp only[mQ]at hd;obtain rfl:d=0:=by omega
    cases r with
    | nil=>rfl
    | cons e r=>have:=hl.2.1;simp[mQ]at this
 ·rintro rfl;exact⟨[0],⟨hb,hb⟩,rfl⟩
structure zG (ns:List AN)(q:Nat):Prop where
 fit:(dM ns q).Fit
 count:((dM ns q).count:Int)<=au ns q
 zp:∀u,(dM ns q).jq u↔W ns q u
 node:∀i,(dM ns q).node i<=q
theorem VV{a b:Int}(h0:0<=a)(hb:b = -1\/0<=b):((oZ a b:Nat):Int)<=aY a b:=by
 unfold oZ aY;by_cases h:b = -1
 ·rw[if_pos h,if_pos h];repeat' split
  all_goals omega
 ·rw[if_neg h,if_neg h];split <;> omega
theorem rO(a b:GP)(q:Nat)(ha:∀i,a.node i<=q)(hb:∀i,b.node i<=q)(i:Nat):(aL a b).node i<=q:=by
 simp only[aL];split
 ·exact hb _
 ·exact ha _
theorem yF(a:GP)(q:Nat)(ha:∀i,a.node i<=q)(e:Bool)(l t:Nat):∀k i,(aJ a e l t k).node i<=q
 | 0,i=>Nat.zero_le _
 | k+1,i=>by
   refine rO _ _ q (yF a q ha e l t k) (fun i=>?_) i;unfold pZ;simp only[];repeat' split
   all_goals exact ha i
theorem DK{ns:List AN}(zH:dX ns)(iA:∀i,i<ns.length->au ns i<=60)(hlen:ns.length<=900){q:Nat}(hq:q<ns.length)(ih:∀l,l<q->zG ns l):
 zG ns q/\∃n,ns[q]?=some n/\0<=n.kind/\n.kind<=6/\kT n (dF ns q):=by
 obtain⟨n,hn⟩:∃n,ns[q]?=some n:=⟨_,List.getElem?_eq_getElem hq⟩;have pR:ns.getD q AA=n:=by rw[List.getD_eq_getElem?_getD,hn];rfl
 have dd:au ns q=n.size:=by unfold au;rw[hn];rfl
 have Vj:=iA q hq;obtain⟨h1,h2,h3,h4⟩:=zH q n hn;have hP:dM ns q=bX n q (dF ns q):=by unfold dM;rw[pR]
 rcases h4 with⟨hk,hl,hr,hs⟩|⟨hk,l,r,hlq,hrq,hl,hr,hs⟩|⟨hk,l,hlq,hl,hr,b1,b2,b3,b4,b5,hs⟩
 ·refine⟨?_,n,hn,by omega,by omega,⟨by omega,by omega,fun h=>by omega,fun h=>by omega,fun h=>by omega⟩⟩;by_cases h0:n.kind=0
  ·have e:dM ns q=cO:=by rw[hP];unfold bX;rw[if_pos h0]
   exact⟨by rw[e];exact Dv,by rw[e,dd];show((0:Nat):Int)<=_;omega,fun u=>by rw[e,Ar,W.zero hn h0],fun i=>by rw[e];exact Nat.zero_le _⟩
  ·have e:dM ns q=mQ q:=by rw[hP];unfold bX;rw[if_neg h0,if_neg (by omega),if_neg (by omega),if_neg (by omega)]
   exact⟨by rw[e];exact DJ q,by rw[e,dd];show((1:Nat):Int)<=_;omega,fun u=>by rw[e,KI,W.one hn (by omega)],fun i=>by rw[e];simp only[mQ];split <;> omega⟩
 ·have pl:=ih l hlq;have pr:=ih r hrq;have el:=ur ns hlq;have er:=ur ns hrq;have HF:(dM ns l).count+(dM ns r).count<=60:=by
   have:=pl.count;have:=pr.count;rw[dd,hs]at Vj;split at Vj <;> omega
  have oY:(((dM ns l).count+(dM ns r).count:Nat):Int)<=au ns q:=by
   have:=pl.count;have:=pr.count;rw[dd,hs];rw[dd,hs]at Vj;split <;> split at Vj <;> omega
  refine⟨?_,n,hn,by omega,by omega,⟨by omega,by omega,fun _=>by rw[hl,hr,el,er];exact HF,fun h=>by omega,fun h=>by omega⟩⟩;rcases hk with hk|hk
  ·have e:dM ns q=gd (dM ns l) (dM ns r):=by rw[hP];unfold bX;rw[if_neg (by omega),if_pos hk,hl,hr,el,er]
   refine⟨by rw[e];exact Hh pl.fit pr.fit HF,by rw[e];exact oY,fun u=>?_,fun i=>by rw[e];exact rO _ _ q (fun i=>by have:=pl.node i;omega) (fun i=>by have:=pr.node i;omega) i⟩;rw[e,xp pl.fit pr.fit HF,W.two hn hk hl hr];simp only[pl.zp,pr.zp]
  ·have e:dM ns q=cG (dM ns l) (dM ns r):=by rw[hP];unfold bX;rw[if_neg (by omega),if_neg (by omega),if_pos hk,hl,hr,el,er]
   refine⟨by rw[e];exact Km pl.fit pr.fit HF,by rw[e];exact oY,fun u=>?_,fun i=>by rw[e];exact rO _ _ q (fun i=>by have:=pl.node i;omega) (fun i=>by have:=pr.node i;omega) i⟩;rw[e,Hi pl.fit pr.fit HF,W.alt hn hk hl hr];simp only[pl.zp,pr.zp]
 ·have pl:=ih l hlq;have el:=ur ns hlq;have hle:=VV (a:=n.least) (b:=n.most) b1 (by omega);have KJ:1<=au ns l:=(zH.size (by omega)).1;have hmul:((oZ n.least n.most*(dM ns l).count:Nat):Int)<=au ns l*aY n.least n.most:=by
   rw[Int.natCast_mul,Int.mul_comm];exact Int.mul_le_mul pl.count hle (by omega) (by omega)
  have oU:oZ n.least n.most*(dM ns l).count<=60:=by
   rw[dd,hs]at Vj;split at Vj <;> omega
  have oY:((oZ n.least n.most*(dM ns l).count:Nat):Int)<=au ns q:=by
   rw[dd,hs];rw[dd,hs]at Vj;split <;> split at Vj <;> omega
  refine⟨?_,n,hn,by omega,by omega,⟨by omega,by omega,fun h=>by omega,fun _=>by rw[hl,el];exact pl.fit,fun _=>⟨b1,b2,b3,b4,by rw[hl,el];exact oU⟩⟩⟩;have e:dM ns q=Ay (dM ns l) n.least n.most:=by rw[hP];unfold bX;rw[if_neg (by omega),if_neg (by omega),if_neg (by omega),if_pos hk,hl,el]
  have DH:∀i,(dM ns q).node i<=q:=fun i=>by
   rw[e];unfold Ay;split <;> exact yF _ q (fun i=>by have:=pl.node i;omega) _ _ _ _ i
  by_cases hm:n.most = -1
  ·have er:oZ n.least n.most=(if n.least.toNat<1 then 1 else n.least.toNat):=by unfold oZ;rw[if_pos hm]
   have ep:Ay (dM ns l) n.least n.most=aJ (dM ns l) true n.least.toNat (oZ n.least n.most) (oZ n.least n.most):=by rw[er];unfold Ay;rw[if_pos hm]
   obtain⟨f1,f2⟩:=iU pl.fit true n.least.toNat (oZ n.least n.most) (oZ n.least n.most) oU;refine⟨by rw[e,ep];exact f1,by rw[e,ep,f2];exact oY,fun u=>?_,DH⟩;rw[e,ep,er,EV pl.fit n.least.toNat (by rw[<-er];exact oU),W.many hn hk hl];constructor
   ·rintro⟨m,h5,us,h6,h7,h8⟩;exact⟨m,by omega,Or.inl hm,us,h6,h7,fun x hx=>(pl.zp x).1 (h8 x hx)⟩
   ·rintro⟨m,h5,_,us,h6,h7,h8⟩;exact⟨m,by omega,us,h6,h7,fun x hx=>(pl.zp x).2 (h8 x hx)⟩
  ·have er:oZ n.least n.most=n.most.toNat:=by unfold oZ;rw[if_neg hm]
   have ep:Ay (dM ns l) n.least n.most=aJ (dM ns l) false n.least.toNat (oZ n.least n.most) (oZ n.least n.most):=by rw[er];unfold Ay;rw[if_neg hm]
   obtain⟨f1,f2⟩:=iU pl.fit false n.least.toNat (oZ n.least n.most) (oZ n.least n.most) oU;refine⟨by rw[e,ep];exact f1,by rw[e,ep,f2];exact oY,fun u=>?_,DH⟩;rw[e,ep,er,Om pl.fit n.least.toNat n.most.toNat (by rw[<-er];exact oU) (by omega),W.many hn hk hl];constructor
   ·rintro⟨m,h5,h9,us,h6,h7,h8⟩;exact⟨m,by omega,Or.inr (by omega),us,h6,h7,fun x hx=>(pl.zp x).1 (h8 x hx)⟩
   ·rintro⟨m,h5,h9,us,h6,h7,h8⟩;exact⟨m,by omega,by omega,us,h6,h7,fun x hx=>(pl.zp x).2 (h8 x hx)⟩
theorem vL{ns:List AN}(zH:dX ns)(iA:∀i,i<ns.length->au ns i<=60)(hlen:ns.length<=900):∀m q,q<m->q<ns.length->zG ns q
 | 0,_,h,_=>by omega
 | m+1,q,h,hq=>(DK zH iA hlen hq (fun l hl=>vL zH iA hlen m l (by omega) (by omega))).1
theorem OK{ns:List AN}(zH:dX ns)(iA:∀i,i<ns.length->au ns i<=60)(hlen:ns.length<=900):vB ns:=fun q n hn=>by
 have hq:=(List.getElem?_eq_some_iff.1 hn).1;obtain⟨_,n',hn',h⟩:=DK zH iA hlen hq (fun l hl=>vL zH iA hlen q l hl (by omega));rw[hn]at hn';cases hn';exact h
end Go.Proofs.YtgifhgnccmnbiabGreatDoor
