/- The machine: learn: what a step can be, by its node; a machine as a whole in a block. -/
import Derived.Test.YtgifhgnccmnbiabGreatG14
set_option linter.unusedVariables false
set_option linter.unusedSimpArgs false
set_option maxHeartbeats 4000000
set_option maxRecDepth 100000
namespace Go.Proofs.YtgifhgnccmnbiabGreat
open Go.RowKit Go.IntWalk
theorem learn_any (m:MP) (g:Nat) (step:B64) (n:AN) (x:IV) (fold:Bool) (B:Nat) (w:World) (h:MIn w g m) (hx:ItemsOk w B x n.its) (hl:n.its.length≤1000) (hne:(ivV x).ownBlock≠some g):
 Calls Tryz.prog 33 #[.pointer (some ⟨g,0,none⟩),.int .u64 (step.toNat:Int),.agg #[.int .i64 n.kind,.slice x.1 x.2.1 x.2.2,.bool n.neg,.int .i64 n.left,.int .i64 n.right,.int .i64 n.least,.int .i64 n.most,.int .i64 n.size],.bool fold] w
  fun e w'=>e=.returned (.tuple #[])∧MIn w' g (learnP m step n fold)∧Kept [g] w w':=by
 have hg:g<w.heap.size:=Blk.lt h
 have hA:MIn (w.alloc (.cells #[.int .i64 n.kind,.slice x.1 x.2.1 x.2.2,.bool n.neg,.int .i64 n.left,.int .i64 n.right,.int .i64 n.least,.int .i64 n.most,.int .i64 n.size] 114)) g m:=Blk.alloc h _
 have k0:Kept [g] w (w.alloc (.cells #[.int .i64 n.kind,.slice x.1 x.2.1 x.2.2,.bool n.neg,.int .i64 n.left,.int .i64 n.right,.int .i64 n.least,.int .i64 n.most,.int .i64 n.size] 114)):=(Kept.refl _ _).alloc _
 by_cases e2:n.kind=2
 · have hP:Hid (learnP m step n fold={ m with begins:=m.begins|||step }):=by show learnP m step n fold=_;unfold learnP;rw [if_pos e2]
   have hor:=or_u m.begins step
   have c1:=h.begins
   have f1:=h.frozen 321
   have hI:=(Blk.set h 321 (UV (m.begins|||step)))
   rw [m_set_begins] at hI
   have hIH:Hid (Blk _ _ _ _):=hI.alloc (.cells #[.int .i64 n.kind,.slice x.1 x.2.1 x.2.2,.bool n.neg,.int .i64 n.left,.int .i64 n.right,.int .i64 n.least,.int .i64 n.most,.int .i64 n.size] 114)
   have hKH:Hid (Kept _ _ _):=((Kept.refl [g] w).setCell (p:=⟨g,321,none⟩) (Or.inl (by simp)) (UV (m.begins|||step))).alloc (.cells #[.int .i64 n.kind,.slice x.1 x.2.1 x.2.2,.bool n.neg,.int .i64 n.left,.int .i64 n.right,.int .i64 n.least,.int .i64 n.most,.int .i64 n.size] 114)
   have b2:(n.kind==2)=true:=by rw [e2];rfl
   clear hI hA h hx k0 e2
   generalize m.begins|||step=Z at *
   go_enter Tryz.func33,Tryz.ntmps33
   go_wp2
   go_end0
   exact ⟨rfl,by rw [hP.out];exact hIH.out,hKH.out⟩
 by_cases e3:n.kind=3
 · have hP:Hid (learnP m step n fold={ m with ends:=m.ends|||step }):=by show learnP m step n fold=_;unfold learnP;rw [if_neg e2,if_pos e3]
   have hor:=or_u m.ends step
   have c1:=h.ends
   have f1:=h.frozen 322
   have hI:=(Blk.set h 322 (UV (m.ends|||step)))
   rw [m_set_ends] at hI
   have hIH:Hid (Blk _ _ _ _):=hI.alloc (.cells #[.int .i64 n.kind,.slice x.1 x.2.1 x.2.2,.bool n.neg,.int .i64 n.left,.int .i64 n.right,.int .i64 n.least,.int .i64 n.most,.int .i64 n.size] 114)
   have hKH:Hid (Kept _ _ _):=((Kept.refl [g] w).setCell (p:=⟨g,322,none⟩) (Or.inl (by simp)) (UV (m.ends|||step))).alloc (.cells #[.int .i64 n.kind,.slice x.1 x.2.1 x.2.2,.bool n.neg,.int .i64 n.left,.int .i64 n.right,.int .i64 n.least,.int .i64 n.most,.int .i64 n.size] 114)
   have b2:(n.kind==2)=false:=by rw [e3];rfl
   have b3:(n.kind==3)=true:=by rw [e3];rfl
   clear hI hA h hx k0 e2 e3
   generalize m.ends|||step=Z at *
   go_enter Tryz.func33,Tryz.ntmps33
   go_wp2
   go_end0
   exact ⟨rfl,by rw [hP.out];exact hIH.out,hKH.out⟩
 by_cases e1:n.kind=1
 · have hP:Hid (learnP m step n fold=learnQ m step n fold 256):=by show learnP m step n fold=_;unfold learnP;rw [if_neg e2,if_neg e3,if_pos e1]
   have hc:Hid (Calls _ _ _ _ _):=learnBytes_any m g step n x fold B _ hA (hx.keep k0 (by simpa using hne)) hl hne
   have hrg:World.rangeAt (w.alloc (.cells #[.int .i64 n.kind,.slice x.1 x.2.1 x.2.2,.bool n.neg,.int .i64 n.left,.int .i64 n.right,.int .i64 n.least,.int .i64 n.most,.int .i64 n.size] 114)) w.heap.size 0 (n.cells x):=fun j v hv=>by
    rw [Nat.zero_add,(Blk.new w _ _).cell,←hv]
    show (n.cells x).toArray[j]?=_
    simp
   have hkH:Hid (Kept _ _ _):=k0
   have hK:Hid (n.kind=1):=e1
   have ek:(w.alloc (.cells #[.int .i64 n.kind,.slice x.1 x.2.1 x.2.2,.bool n.neg,.int .i64 n.left,.int .i64 n.right,.int .i64 n.least,.int .i64 n.most,.int .i64 n.size] 114)).cell? ⟨w.heap.size,0,none⟩=some (.int .i64 1):=by
    rw [(Blk.new w _ _).cell,←e1];rfl
   have hk1:∀kd,kd=n.kind→n.kind=1:=fun _ _=>e1
   clear hA h hx k0 e2 e3 e1 ek hk1
   go_enter Tryz.func33,Tryz.ntmps33
   have e1:=hK.out
   have e1':(n.kind==2)=false:=by rw [e1];rfl
   have e1'':(n.kind==3)=false:=by rw [e1];rfl
   have e1''':(n.kind==1)=true:=by rw [e1];rfl
   clear e1
   go_wp2_with (first
    | (with_reducible refine wpList_load_node ?_ (.tmp 6) ?_ w.heap.size 0 ?_ n x ?_ ?_
       · rfl
       · rfl
       · rfl
       · exact hrg)
    | (go_at_call 67
       refine hc.out.mono ?_
       rintro e w5 ⟨rfl,h5,k5⟩))
   go_end0
   exact ⟨rfl,by rw [hP.out];exact h5,hkH.out.trans k5⟩
 · have hP:Hid (learnP m step n fold=m):=by show learnP m step n fold=_;unfold learnP;rw [if_neg e2,if_neg e3,if_neg e1]
   have hIH:Hid (MIn _ _ _):=hA
   have hkH:Hid (Kept _ _ _):=k0
   clear hA h hx k0
   go_enter Tryz.func33,Tryz.ntmps33
   go_wp2
   go_end0
   exact ⟨rfl,by rw [hP.out];exact hIH.out,hkH.out⟩
theorem mCell_one (m:MP) (i:Nat):(mCell m i).oneCell'=true:=by
 unfold mCell
 repeat' split
 all_goals rfl
theorem mCells_one (m:MP):(mCells m).all (·.oneCell')=true:=cellsF_one fun j _=>mCell_one m j
theorem zero_mach:(Tryz.prog.info? 69).map (fun i=>(i.zero,i.size))=some (some (.agg (mCells {})),324):=by kernel_rfl
theorem zeroV_mach (w:World):(zeroValue 69).run Tryz.prog w=.ok (.agg (mCells {})) w:=by
 have h:=zero_mach
 cases hq:Tryz.prog.info? 69 with
 | none=>simp [hq] at h
 | some i=>
   simp [hq] at h
   simp [zeroValue,typeInfo,hq,h.1]
theorem size_mach:(Tryz.prog.info? 69).map (·.size)=some 324:=by kernel_rfl
theorem wpList_load_mach {ops:Array Oper} {rest:List Oper} {o:Oper} {a:Act} {w:World} {Q:Exit→Act→World→Prop} (hgd:o.guard=none) (x:Operand) (ho:o.op=.load 69 x)
 (g:Nat) (hx:a.eval x=.pointer (some ⟨g,0,none⟩)) (p:MP) (hg:MIn w g p)
 (h:wpList Tryz.prog ops Q rest (a.put o.dst (.agg (mCells p))) w):wpList Tryz.prog ops Q (o :: rest) a w:=
 wpList_load_row hgd _ x ho g hx _ _ _ _ hg Tryz.underlying69 rfl (by rw [mCells_size];exact size_mach) h
theorem wpList_store_mach {ops:Array Oper} {rest:List Oper} {o:Oper} {a:Act} {w:World} {Q:Exit→Act→World→Prop} (hgd:o.guard=none) (x y:Operand) (ho:o.op=.store 69 x y)
 (g:Nat) (hx:a.eval x=.pointer (some ⟨g,0,none⟩)) (q p:MP) (hy:a.eval y=.agg (mCells p)) (hg:MIn w g q)
 (h:∀w',MIn w' g p→Kept [g] w w'→w'.heap.size=w.heap.size→wpList Tryz.prog ops Q rest (a.put o.dst undef) w'):wpList Tryz.prog ops Q (o :: rest) a w:=by
 refine wpList_plain hgd fun K hK=>?_
 have hr:=run_storeVar_row (P:=Tryz.prog) w g 69 69 (mCells q) (mCells p) hg (by rw [mCells_size];exact size_mach) (by simp) (mCells_one p)
 unfold Oper.wp execOp
 simp only [ho,hx,hy,Instr.storeAt,Instr.sureAddr,Sem.run_bind,Sem.run_pure,Result.andThen_ok,hr]
 exact hK _ _ (h _ (Blk.storeRow hg) (Kept.setRow w g _) (by simp))
theorem results_mach {fn:Func} {r:Tmp} (h:fn.results=#[.cell r 69]) (tmps:Array Value) (w:World) (g:Nat) (p:MP)
 (hp:tmps.getD r undef=.pointer (some ⟨g,0,none⟩)) (hg:MIn w g p):(results fn tmps).run Tryz.prog w=.ok (.agg (mCells p)) w:=
 results_cell_row h tmps w g _ _ _ _ hp hg Tryz.underlying69 rfl (by rw [mCells_size];exact size_mach)
theorem m_set_beg (m:MP) (s:B64):(mCells m).setIfInBounds 0 (UV s)=mCells { m with beg:=s }:=cellsF_set _ _ _ _ fun j hj=>by
 by_cases h:j=0
 · subst h;rfl
 · unfold mCell;simp only [if_neg h]
theorem m_set_en (m:MP) (s:B64):(mCells m).setIfInBounds 1 (UV s)=mCells { m with en:=s }:=cellsF_set _ _ _ _ fun j hj=>by
 by_cases h:j=1
 · subst h;rfl
 · unfold mCell;simp only [if_neg h]
theorem build_mach (w:World) (b:Bool) (s:B64):(Instr.build 69 #[(6,.int .u64 (s.toNat:Int))]).run Tryz.prog w=.ok (.agg (mCells { whole:=b,last:=s })) w:=by
 unfold Instr.build
 rw [Sem.run_bind,zeroV_mach w]
 simp [Sem.run_bind,run_underlying Tryz.underlying69,go_sem]
 have hne:mCells {}≠#[]:=fun h=>by have:=mCells_size {};rw [h] at this;simp at this
 have e:=m_set_last { whole:=b } s
 have e0:mCells { whole:=b }=mCells {}:=rfl
 rw [e0] at e
 rw [e]
theorem wpList_build_mach {ops:Array Oper} {rest:List Oper} {o:Oper} {a:Act} {w:World} {Q:Exit→Act→World→Prop} (hgd:o.guard=none) (y:Operand) (ho:o.op=.build 69 #[(6,y)])
 (b:Bool) (s:B64) (hy:a.eval y=.int .u64 (s.toNat:Int))
 (h:wpList Tryz.prog ops Q rest (a.put o.dst (.agg (mCells { whole:=b,last:=s }))) w):wpList Tryz.prog ops Q (o :: rest) a w:=
 wpList_build_value hgd _ _ ho _ (by simp only [List.map_toArray,List.map_cons,List.map_nil,hy]) _ (build_mach w b s) h
def nextM (m:MP) (q:Nat) (s:B64):MP:={ m with next:=fun j=>if j=q then s else m.next j }
def build0 (p:GP) (whole:Bool):MP:={ nextM { whole:=whole,last:=p.last } 60 p.first with last:=if p.empty=true then p.last|||startB else p.last }
def buildQ (ns:List AN) (p:GP) (fold whole:Bool):Nat→MP
 | 0=>build0 p whole
 | q+1=>
   match ns[p.node q]? with
   | some n=>learnP (nextM (buildQ ns p fold whole q) q (p.next q)) (1#64 <<< q) n fold
   | none=>nextM (buildQ ns p fold whole q) q (p.next q)
def buildP (ns:List AN) (p:GP) (fold whole:Bool):MP:=buildQ ns p fold whole p.count
structure BdIn (w0 w:World) (gp g:Nat) (v:Value) (size:Int) (p:GP) (m:MP):Prop where
 mi:MIn w g m
 pt:Blk w gp (gpCells p) 107
 pat:Blk w w0.heap.size #[v,.int .i64 size] 54
 res:MIn w (w0.heap.size+1) {}
 k:Kept [] w0 w
 lt:w0.heap.size+1<gp
 ltg:gp<g
theorem BdIn.into {w0 w w':World} {gp g:Nat} {v:Value} {size:Int} {p:GP} {m m':MP} (h:BdIn w0 w gp g v size p m) (hm:MIn w' g m') (k:Kept [g] w w'):BdIn w0 w' gp g v size p m':=by
 have:=h.lt
 have:=h.ltg
 exact ⟨hm,h.pt.kept k (by simp;omega),h.pat.kept k (by simp;omega),Blk.kept h.res k (by simp;omega),h.k.into k (by omega),h.lt,h.ltg⟩
theorem BdIn.set {w0 w:World} {gp g:Nat} {v:Value} {size:Int} {p:GP} {m m':MP} (h:BdIn w0 w gp g v size p m) (i:Nat) (u:Value) (he:(mCells m).setIfInBounds i u=mCells m'):BdIn w0 (w.setCell ⟨g,i,none⟩ u) gp g v size p m':=by
 refine h.into (m':=m') ?_ ((Kept.refl _ _).setCell (Or.inl (by simp)) _)
 have:=Blk.set h.mi i u
 rw [he] at this
 exact this
theorem MIn.set {w:World} {g:Nat} {m m':MP} (h:MIn w g m) (i:Nat) (u:Value) (he:(mCells m).setIfInBounds i u=mCells m'):MIn (w.setCell ⟨g,i,none⟩ u) g m':=by
 have:=Blk.set h i u
 rw [he] at this
 exact this
theorem MIn.drew' {w:World} {g:Nat} {m:MP} (h:MIn w g m):MIn w.drew g m:=Blk.kept h ((Kept.refl [] _).drew) (by simp)
theorem into_zero (m:MP) (S:B64):∀q,intoQ m 0#64 S q=0#64
 | 0=>rfl
 | q+1=>by rw [intoQ,if_pos (by simp),into_zero m S q]
theorem enough_zero (m:MP) (X:B64):∀q,enoughQ m 0#64 X q=X
 | 0=>rfl
 | q+1=>by
   rw [enoughQ,enough_zero m X q]
   unfold intoP
   rw [into_zero]
   simp
theorem enoughBy_any (m:MP) (g:Nat) (free:B64) (w:World) (h:MIn w g m):
 Calls Tryz.prog 68 #[.pointer (some ⟨g,0,none⟩),.int .u64 (free.toNat:Int)] w fun e w'=>e=.returned (.int .u64 ((enoughP m free).toNat:Int))∧Kept [] w w':=by
 have hg:g<w.heap.size:=Blk.lt h
 have c0:=h.last
 have ho:=or_u m.last foundB
 rw [foundB_nat] at ho
 have e0:Hid (enoughP m free=enoughQ m free (m.last|||foundB) 60):=rfl
 have hI:Hid (MIn (w.alloc (.cells #[.pointer (some ⟨g,2,none⟩),UV free] 117)) g m):=Blk.alloc h _
 have hB:Hid (Blk (w.alloc (.cells #[.pointer (some ⟨g,2,none⟩),UV free] 117)) w.heap.size #[.pointer (some ⟨g,2,none⟩),UV free] 117):=Blk.new w _ _
 have hK:Hid (Kept [] w (w.alloc (.cells #[.pointer (some ⟨g,2,none⟩),UV free] 117))):=(Kept.refl [] w).alloc _
 generalize m.last|||foundB=X at *
 clear h
 go_enter Tryz.func68,Tryz.ntmps68
 go_wp2_with fail
 go_loopw [6,7] (fun ev iv wr=>∃q:Nat,ev=.int .u64 ((enoughQ m free X q).toNat:Int)∧iv=.int .i64 (q:Int)∧q≤60∧MIn wr g m∧Blk wr w.heap.size #[.pointer (some ⟨g,2,none⟩),UV free] 117∧Kept [] w wr) (fun _ iv _=>(60-intOf iv).toNat)
 case atStart=>exact ⟨0,rfl,rfl,by omega,hI.out,hB.out,hK.out⟩
 case round=>
  obtain ⟨q,rfl,rfl,hq,hI1,hB1,hK1⟩:=hrel
  clear hI hB hK
  by_cases hlt:(q:Int)<60
  · by_cases hf:free=0#64
    · have hf0:(free.toNat:Int)=0:=(u_zero _).2 hf
      have e1:Hid (enoughP m free=enoughQ m free X q):=by show enoughP m free=_;rw [e0.out,hf,enough_zero,enough_zero]
      have hKH:Hid (Kept _ _ _):=hK1
      clear hf e0 hI1 hB1 hK1
      generalize enoughQ m free X q=Y at *
      go_wp2
      go_ret
      exact ⟨by rw [e1.out];rfl,hKH.out⟩
    · have hf0:(free.toNat:Int)≠0:=fun hc=>hf ((u_zero _).1 hc)
      have hc:Hid (Calls _ _ _ wr _):=into_any m g 2 free (enoughQ m free X q) wr hI1.tab
      have hor:=or_u (enoughQ m free X q) (intoP m free (enoughQ m free X q))
      have e1:Hid (enoughQ m free X (q+1)=enoughQ m free X q|||intoP m free (enoughQ m free X q)):=rfl
      have d0:wr.cell? ⟨w.heap.size,0,none⟩=some (.pointer (some ⟨g,2,none⟩)):=hB1.cell 0
      have d1:wr.cell? ⟨w.heap.size,1,none⟩=some (UV free):=hB1.cell 1
      have hI2:Hid (MIn wr g m):=hI1
      have hB2:Hid (Blk wr w.heap.size #[.pointer (some ⟨g,2,none⟩),UV free] 117):=hB1
      have hK2:Hid (Kept [] w wr):=hK1
      clear hf e0 hI1 hB1 hK1 ho c0
      generalize intoP m free (enoughQ m free X q)=V at *
      generalize enoughQ m free X q|||V=Z at *
      go_wp2_with (go_at_call 98;refine hc.out.mono ?_;rintro _ w2 ⟨rfl,k2⟩)
      refine ⟨⟨q+1,by rw [e1.out],by go_num,by omega,Blk.kept hI2.out k2 (by simp),hB2.out.kept k2 (by simp),hK2.out.trans k2⟩,?_⟩
      simp only [intOf];omega
  · have hqe:q=60:=by omega
    subst hqe
    have hKH:Hid (Kept _ _ _):=hK1
    clear hI1 hB1 hK1
    go_wp2
    go_ret
    exact ⟨by rw [e0.out];rfl,hKH.out⟩
theorem findEnds_any (m:MP) (g:Nat) (w:World) (h:MIn w g m):
 Calls Tryz.prog 34 #[.pointer (some ⟨g,0,none⟩)] w fun e w'=>e=.returned (.tuple #[])∧MIn w' g (begM m)∧Kept [g] w w':=by
 have hg:g<w.heap.size:=Blk.lt h
 have c0:=h.begins
 have f0:=h.frozen 0
 have b0:=h.beg
 have hst:Hid (∀o,MIn ((w.setCell ⟨g,0,none⟩ (.int .u64 5764607523034234880)).alloc o).drew g { m with beg:=begQ m 0 }∧Kept [g] w ((w.setCell ⟨g,0,none⟩ (.int .u64 5764607523034234880)).alloc o).drew):=fun o=>
  ⟨MIn.drew' (Blk.alloc (MIn.set h 0 _ (m_set_beg m (begQ m 0))) o),((((Kept.refl [g] w).setCell (Or.inl (by simp)) _).alloc o).drew)⟩
 have hwy:Hid (Blk ((w.setCell ⟨g,0,none⟩ (.int .u64 5764607523034234880)).alloc (.cells #[.pointer (some ⟨g,2,none⟩),UV m.begins] 117)).drew w.heap.size #[.pointer (some ⟨g,2,none⟩),UV m.begins] 117):=by
  have h1:=Blk.new (w.setCell ⟨g,0,none⟩ (.int .u64 5764607523034234880)) #[.pointer (some ⟨g,2,none⟩),UV m.begins] 117
  have e:(w.setCell ⟨g,0,none⟩ (.int .u64 5764607523034234880)).heap.size=w.heap.size:=by simp
  rw [e] at h1
  exact h1.kept ((Kept.refl [] _).drew) (by simp)
 clear h
 go_enter Tryz.func34,Tryz.ntmps34
 go_wp2_with fail
 go_region
 go_wp2_with fail
 go_loopw [3] (fun iv wr=>∃q:Nat,iv=.int .i64 (q:Int)∧q≤60∧MIn wr g { m with beg:=begQ m q }∧Blk wr w.heap.size #[.pointer (some ⟨g,2,none⟩),UV m.begins] 117∧Kept [g] w wr) (fun iv _=>(60-intOf iv).toNat)
 case atStart=>
  obtain ⟨h1,h2⟩:=hst.out (.cells #[.pointer (some ⟨g,2,none⟩),UV m.begins] 117)
  exact ⟨0,rfl,by omega,h1,hwy.out,h2⟩
 case round=>
  obtain ⟨q,rfl,hq,hI,hB,hK⟩:=hrel
  clear hst hwy c0 f0 b0
  by_cases hlt:(q:Int)<60
  · have hc:Hid (∀w',Kept [] wr w'→Calls Tryz.prog 38 #[WV g 2 m.begins,.int .u64 ((begQ m q).toNat:Int)] w' fun e w2=>e=.returned (.int .u64 ((fromP m m.begins (begQ m q)).toNat:Int))∧Kept [] w' w2):=fun w' k=>from_any m g 2 m.begins (begQ m q) w' (TabAt.kept hI.tab k (Blk.lt hI))
    have hor:=or_u (begQ m q) (fromP m m.begins (begQ m q))
    have e1:Hid (begQ m (q+1)=begQ m q|||fromP m m.begins (begQ m q)):=rfl
    have d0:wr.cell? ⟨w.heap.size,0,none⟩=some (.pointer (some ⟨g,2,none⟩)):=hB.cell 0
    have d1:wr.cell? ⟨w.heap.size,1,none⟩=some (UV m.begins):=hB.cell 1
    have b0:wr.cell? ⟨g,0,none⟩=some (UV (begQ m q)):=hI.beg
    have hgr:g<wr.heap.size:=Blk.lt hI
    have hIH:Hid (MIn _ _ _):=hI
    have hBH:Hid (Blk _ _ _ _):=hB
    have hKH:Hid (Kept _ _ _):=hK
    clear hI hB hK
    generalize fromP m m.begins (begQ m q)=V at *
    generalize begQ m q|||V=Z at *
    go_wp2_with fail
    go_region_law (go_simp;go_at_call 38;refine (hc.out _ ((Kept.refl [] _).drew)).mono ?_;rintro _ w5 ⟨rfl,k5⟩;have K5:=((Kept.refl [] wr).drew).trans k5;have r0:w5.cell? ⟨g,0,none⟩=some (UV (begQ m q)):=(K5.cell hgr 0).trans b0;have q0:w5.frozen? ⟨g,0,none⟩=false:=(Blk.kept hIH.out K5 (by simp)).frozen 0)
    all_goals
     go_wp2
     refine ⟨⟨q+1,by go_num,by omega,?_,?_,?_⟩,?_⟩
     · rw [e1.out]
       exact MIn.set (Blk.kept hIH.out K5 (by simp)) 0 _ (m_set_beg _ Z)
     · exact (hBH.out.kept K5 (by simp)).other _ _ (by omega)
     · exact (hKH.out.trans (K5.mono (by simp))).setCell (Or.inl (by simp)) _
     · simp only [intOf];omega
  · have hqe:q=60:=by omega
    subst hqe
    have hgr:g<wr.heap.size:=Blk.lt hI
    have b0:wr.cell? ⟨g,0,none⟩=some (UV (begP m)):=hI.beg
    have h1:Hid (Calls Tryz.prog 68 #[.pointer (some ⟨g,0,none⟩),.int .u64 (m.ends.toNat:Int)] wr fun e w2=>e=.returned (.int .u64 ((enoughP m m.ends).toNat:Int))∧Kept [] wr w2):=by
     have:=enoughBy_any { m with beg:=begQ m 60 } g m.ends wr hI
     rw [enoughP_next (m:=m) (m':={ m with beg:=begQ m 60 }) rfl rfl] at this
     exact this
    have h2:Hid (∀w',MIn w' g { m with beg:=begP m,en:=enoughP m m.ends }→Calls Tryz.prog 68 #[.pointer (some ⟨g,0,none⟩),.int .u64 ((m.ends|||m.begins).toNat:Int)] w' fun e w2=>e=.returned (.int .u64 ((enoughP m (m.ends|||m.begins)).toNat:Int))∧Kept [] w' w2):=fun w' hi=>by
     have:=enoughBy_any { m with beg:=begP m,en:=enoughP m m.ends } g (m.ends|||m.begins) w' hi
     rw [enoughP_next (m:=m) (m':={ m with beg:=begP m,en:=enoughP m m.ends }) rfl rfl] at this
     exact this
    have hst:Hid (∀w1,Kept [] wr w1→MIn (w1.setCell ⟨g,1,none⟩ (UV (enoughP m m.ends))) g { m with beg:=begP m,en:=enoughP m m.ends }∧Kept [g] wr (w1.setCell ⟨g,1,none⟩ (UV (enoughP m m.ends)))):=fun w1 k=>
     ⟨(MIn.set (m:={ m with beg:=begQ m 60 }) (Blk.kept hI k (by simp)) 1 _ (m_set_en _ (enoughP m m.ends))),(k.mono (by simp)).setCell (Or.inl (by simp)) _⟩
    have hfin:Hid (begM m={ m with beg:=begP m,en:=if begP m&&&enoughP m (m.ends|||m.begins)=0#64 then enoughP m m.ends else enoughP m m.ends|||freshB }):=rfl
    have hor:=or_u m.ends m.begins
    have hand:=and_u (begP m) (enoughP m (m.ends|||m.begins))
    have hof:=or_u (enoughP m m.ends) freshB
    rw [freshB_nat] at hof
    have c1:wr.cell? ⟨g,322,none⟩=some (UV m.ends):=hI.ends
    have c2:wr.cell? ⟨g,321,none⟩=some (UV m.begins):=hI.begins
    have c3:wr.cell? ⟨g,1,none⟩=some (UV m.en):=hI.en
    have f1:wr.frozen? ⟨g,1,none⟩=false:=hI.frozen 1
    have hIH:Hid (MIn _ _ _):=hI
    have hKH:Hid (Kept _ _ _):=hK
    clear hI hB hK
    generalize m.ends|||m.begins=EB at *
    generalize enoughP m EB=E2 at *
    generalize hE1:enoughP m m.ends=E1 at *
    generalize E1|||freshB=EF at *
    generalize begP m=B0 at hfin b0 hst h2 hand
    generalize B0&&&E2=X at *
    clear hE1
    by_cases hX:X=0#64
    · have hX0:(X.toNat:Int)=0:=(u_zero _).2 hX
      rw [if_pos hX] at hfin
      clear hX hof
      go_wp2_with (go_at_call 68;refine h1.out.mono ?_;rintro _ w1 ⟨rfl,k1⟩;have r0:=(k1.cell hgr 0).trans b0;have r1:=(k1.cell hgr 1).trans c3;have r2:=(k1.cell hgr 322).trans c1;have r3:=(k1.cell hgr 321).trans c2;have q1:w1.frozen? ⟨g,1,none⟩=false:=(Blk.kept hIH.out k1 (by simp)).frozen 1;have s1:Hid (_∧_):=hst.out _ k1)
      go_region_law (go_simp;go_at_call 68;refine (h2.out _ (MIn.drew' s1.out.1)).mono ?_;rintro _ w5 ⟨rfl,k5⟩;have K5:Hid (MIn _ _ _∧Kept _ _ _):=⟨Blk.kept (MIn.drew' s1.out.1) k5 (by simp),s1.out.2.trans ((((Kept.refl [] _).drew).trans k5).mono (by simp))⟩;have r5:w5.cell? ⟨g,1,none⟩=some (UV E1):=K5.out.1.en;have r6:w5.cell? ⟨g,0,none⟩=some (UV B0):=K5.out.1.beg;have q5:w5.frozen? ⟨g,1,none⟩=false:=K5.out.1.frozen 1)
      all_goals
       go_wp2
       go_end0
       exact ⟨rfl,by rw [hfin.out];exact K5.out.1,hKH.out.trans K5.out.2⟩
    · have hX0:(X.toNat:Int)≠0:=fun hc=>hX ((u_zero _).1 hc)
      rw [if_neg hX] at hfin
      clear hX
      go_wp2_with (go_at_call 68;refine h1.out.mono ?_;rintro _ w1 ⟨rfl,k1⟩;have r0:=(k1.cell hgr 0).trans b0;have r1:=(k1.cell hgr 1).trans c3;have r2:=(k1.cell hgr 322).trans c1;have r3:=(k1.cell hgr 321).trans c2;have q1:w1.frozen? ⟨g,1,none⟩=false:=(Blk.kept hIH.out k1 (by simp)).frozen 1;have s1:Hid (_∧_):=hst.out _ k1)
      go_region_law (go_simp;go_at_call 68;refine (h2.out _ (MIn.drew' s1.out.1)).mono ?_;rintro _ w5 ⟨rfl,k5⟩;have K5:Hid (MIn _ _ _∧Kept _ _ _):=⟨Blk.kept (MIn.drew' s1.out.1) k5 (by simp),s1.out.2.trans ((((Kept.refl [] _).drew).trans k5).mono (by simp))⟩;have r5:w5.cell? ⟨g,1,none⟩=some (UV E1):=K5.out.1.en;have r6:w5.cell? ⟨g,0,none⟩=some (UV B0):=K5.out.1.beg;have q5:w5.frozen? ⟨g,1,none⟩=false:=K5.out.1.frozen 1)
      all_goals
       go_wp2
       go_end0
       exact ⟨rfl,by rw [hfin.out];exact MIn.set K5.out.1 1 _ (m_set_en _ EF),(hKH.out.trans K5.out.2).setCell (Or.inl (by simp)) _⟩
theorem any_step (m:MP) (q:Nat) (hc:m.last.getLsbD q=true∨q=61) (s:B64) (hs:s=(anyQ m q).next q|||foundB) (hq:q<63):(mCells (anyQ m q)).setIfInBounds (2+q) (UV s)=mCells (anyQ m (q+1)):=by
 subst hs
 refine m_set_next _ _ q _ hq ⟨rfl,rfl⟩ rfl (fun j _=>?_) rfl rfl rfl
 unfold anyQ
 simp only []
 by_cases h:j=q
 · subst h
   have e:¬(j<j∧(m.last.getLsbD j=true∨j=61)):=fun hc=>Nat.lt_irrefl _ hc.1
   rw [if_pos ⟨Nat.lt_succ_self _,hc⟩,if_pos rfl,if_neg e]
 · rw [if_neg h]
   by_cases h2:j<q∧(m.last.getLsbD j=true∨j=61)
   · rw [if_pos ⟨by omega,h2.2⟩,if_pos h2]
   · rw [if_neg (fun h3=>h2 ⟨by omega,h3.2⟩),if_neg h2]
theorem any_skip (m:MP) (q:Nat) (hc:¬(m.last.getLsbD q=true∨q=61)):anyQ m (q+1)=anyQ m q:=by
 unfold anyQ
 congr 1
 funext j
 by_cases h2:j<q∧(m.last.getLsbD j=true∨j=61)
 · rw [if_pos ⟨by omega,h2.2⟩,if_pos h2]
 · rw [if_neg (fun h3=>h2 ⟨by
    have:=h3.1
    have:j≠q:=fun he=>hc (he ▸ h3.2)
    omega,h3.2⟩),if_neg h2]
theorem take_step (m:MP) (q:Nat) (hq:q<256) (s:B64) (hs:s=(takeQ m q).takes q|||(startB|||foundB)):(mCells (takeQ m q)).setIfInBounds (65+q) (UV s)=mCells (takeQ m (q+1)):=by
 subst hs
 refine m_set_takes _ _ q _ hq ⟨rfl,rfl⟩ rfl (fun j _=>?_) rfl rfl rfl
 unfold takeQ
 simp only []
 by_cases h:j=q
 · subst h
   rw [if_pos (Nat.lt_succ_self _),if_pos rfl,if_neg (by omega)]
 · rw [if_neg h]
   by_cases h2:j<q
   · rw [if_pos (by omega),if_pos h2]
   · rw [if_neg (by omega),if_neg h2]
theorem any_first (m:MP):(mCells m).setIfInBounds 62 (UV (m.next 60|||startB))=mCells (anyQ m 0):=by
 show (mCells m).setIfInBounds (2+60) _=_
 refine m_set_next _ _ 60 _ (by decide) ⟨rfl,rfl⟩ rfl (fun j _=>?_) rfl rfl rfl
 unfold anyQ
 simp only []
 rw [if_neg (by omega)]
 by_cases h:j=60
 · subst h;rfl
 · rw [if_neg h,if_neg h]
theorem allowAnywhere_any (m:MP) (g:Nat) (w:World) (h:MIn w g m):
 Calls Tryz.prog 35 #[.pointer (some ⟨g,0,none⟩)] w fun e w'=>e=.returned (.tuple #[])∧MIn w' g (anyP m)∧Kept [g] w w':=by
 have hg:g<w.heap.size:=Blk.lt h
 have c0:w.cell? ⟨g,62,none⟩=some (UV (m.next 60)):=h.next (i:=60) (by decide)
 have f0:=h.frozen 62
 have ho:=or_u (m.next 60) startB
 rw [startB_nat] at ho
 have hst:Hid (MIn (w.drew.setCell ⟨g,62,none⟩ (UV (m.next 60|||startB))) g (anyQ m 0)∧Kept [g] w (w.drew.setCell ⟨g,62,none⟩ (UV (m.next 60|||startB)))):=⟨MIn.set h.drew' 62 _ (any_first m),((Kept.refl [g] w).drew).setCell (Or.inl (by simp)) _⟩
 clear h
 generalize m.next 60|||startB=Z0 at *
 go_enter Tryz.func35,Tryz.ntmps35
 go_wp2_with fail
 go_region
 go_wp2_with fail
 go_loopw [2] (fun iv wr=>∃q:Nat,iv=.int .i64 (q:Int)∧q≤63∧MIn wr g (anyQ m q)∧Kept [g] w wr) (fun iv _=>(63-intOf iv).toNat)
 case atStart=>exact ⟨0,rfl,by omega,hst.out.1,hst.out.2⟩
 case round=>
  obtain ⟨q,rfl,hq,hI,hK⟩:=hrel
  clear hst c0 f0 ho
  by_cases hlt:(q:Int)<63
  · have hqn:q<63:=by omega
    have d0:wr.cell? ⟨g,323,none⟩=some (UV m.last):=hI.last
    have d1:wr.cell? ⟨g,2+q,none⟩=some (UV ((anyQ m q).next q)):=hI.next hqn
    have f1:=hI.frozen (2+q)
    have hor:=or_u ((anyQ m q).next q) foundB
    rw [foundB_nat] at hor
    have hhas:Hid (∀w,Calls Tryz.prog 69 #[.int .u64 (m.last.toNat:Int),.int .i64 (q:Int)] w fun e w'=>e=.returned (.bool (m.last.getLsbD q))∧w'=w):=fun w=>has_any m.last q (by omega) w
    have hon:Hid ((m.last.getLsbD q=true∨q=61)→MIn (wr.drew.setCell ⟨g,2+q,none⟩ (UV ((anyQ m q).next q|||foundB))) g (anyQ m (q+1))∧Kept [g] w (wr.drew.setCell ⟨g,2+q,none⟩ (UV ((anyQ m q).next q|||foundB)))):=fun hb=>⟨MIn.set hI.drew' _ _ (any_step m q hb _ rfl hqn),(hK.drew).setCell (Or.inl (by simp)) _⟩
    have hoff:Hid (¬(m.last.getLsbD q=true∨q=61)→MIn wr g (anyQ m (q+1))∧Kept [g] w wr):=fun hb=>by rw [any_skip m q hb];exact ⟨hI,hK⟩
    clear hI hK
    generalize (anyQ m q).next q|||foundB=Z at *
    generalize (anyQ m q).next q=V at *
    cases hbit:m.last.getLsbD q with
    | true=>
      have H:Hid (_∧_):=hon.out (Or.inl hbit)
      rw [hbit] at hhas
      clear hon hoff hbit
      go_wp2_with (go_at_call 69;refine (hhas.out _).mono ?_;rintro _ _ ⟨rfl,rfl⟩)
      go_region
      go_wp2
      refine ⟨⟨q+1,by go_num,by omega,H.out.1,H.out.2⟩,?_⟩
      simp only [intOf];omega
    | false=>
      by_cases h61:(q:Int)=61
      · have H:Hid (_∧_):=hon.out (Or.inr (by omega))
        have hb61:((q:Int)==61)=true:=by simp [h61]
        rw [hbit] at hhas
        clear hon hoff hbit h61
        go_wp2_with (go_at_call 69;refine (hhas.out _).mono ?_;rintro _ _ ⟨rfl,rfl⟩)
        go_region
        go_wp2
        refine ⟨⟨q+1,by go_num,by omega,H.out.1,H.out.2⟩,?_⟩
        simp only [intOf];omega
      · have H:Hid (_∧_):=hoff.out (fun hc=>by
         rcases hc with hc | hc
         · rw [hbit] at hc;exact absurd hc (by decide)
         · omega)
        rw [hbit] at hhas
        clear hon hoff hbit
        go_wp2_with (go_at_call 69;refine (hhas.out _).mono ?_;rintro _ _ ⟨rfl,rfl⟩)
        refine ⟨⟨q+1,by go_num,by omega,H.out.1,H.out.2⟩,?_⟩
        simp only [intOf];omega
  · have hqe:q=63:=by omega
    subst hqe
    have hst2:Hid (MIn wr g (takeQ (anyQ m 63) 0)∧Kept [g] w wr):=⟨by
     have e:takeQ (anyQ m 63) 0=anyQ m 63:=by unfold takeQ;congr 1
     rw [e];exact hI,hK⟩
    clear hI hK hlt hq
    have eA:Hid (anyP m=takeQ (anyQ m 63) 256):=rfl
    generalize anyQ m 63=M at *
    go_wp2_with fail
    go_loopw [3] (fun iv wr=>∃q:Nat,iv=.int .i64 (q:Int)∧q≤256∧MIn wr g (takeQ M q)∧Kept [g] w wr) (fun iv _=>(256-intOf iv).toNat)
    case atStart=>exact ⟨0,rfl,by omega,hst2.out.1,hst2.out.2⟩
    case round=>
     obtain ⟨q,rfl,hq,hI,hK⟩:=hrel
     clear hst2
     by_cases hlt:(q:Int)<256
     · have hqn:q<256:=by omega
       have d1:=hI.takes hqn
       have f1:=hI.frozen (65+q)
       have hor:=or_u ((takeQ M q).takes q) (startB|||foundB)
       have hcn:(((startB|||foundB:B64).toNat:Nat):Int)=3458764513820540928:=rfl
       rw [hcn] at hor
       have H:Hid (MIn (wr.drew.setCell ⟨g,65+q,none⟩ (UV ((takeQ M q).takes q|||(startB|||foundB)))) g (takeQ M (q+1))∧Kept [g] w (wr.drew.setCell ⟨g,65+q,none⟩ (UV ((takeQ M q).takes q|||(startB|||foundB))))):=⟨MIn.set hI.drew' _ _ (take_step M q hqn _ rfl),(hK.drew).setCell (Or.inl (by simp)) _⟩
       clear hI hK hcn
       generalize (takeQ M q).takes q|||(startB|||foundB)=Z at *
       generalize (takeQ M q).takes q=V at *
       go_wp2_with fail
       go_region
       go_wp2
       refine ⟨⟨q+1,by go_num,by omega,H.out.1,H.out.2⟩,?_⟩
       simp only [intOf];omega
     · have hqe:q=256:=by omega
       subst hqe
       have hIH:Hid (MIn _ _ _):=hI
       have hKH:Hid (Kept _ _ _):=hK
       clear hI hK
       go_wp2
       go_end0
       exact ⟨rfl,by rw [eA.out];exact hIH.out,hKH.out⟩
theorem way_any (m:MP) (g c:Nat) (hc:c<256) (w:World) (h:MIn w g m):
 Calls Tryz.prog 70 #[.pointer (some ⟨g,0,none⟩),.int .u8 (c:Int)] w fun e w'=>e=.returned (WV g 2 (m.takes c))∧Kept [] w w':=by
 have hg:g<w.heap.size:=Blk.lt h
 have c0:=h.takes hc
 clear h
 generalize m.takes c=V at *
 have hk:Hid (Kept [] w (w.alloc (.cells #[.pointer (some ⟨g,2,none⟩),UV V] 117)).drew):=((Kept.refl [] w).alloc _).drew
 go_enter Tryz.func70,Tryz.ntmps70
 go_wp2_with fail
 go_region
 go_wp2
 refine bodyPost_ret (v:=WV g 2 V) (by simp [results,Tryz.results70,go_sem]) rfl ⟨rfl,hk.out⟩
end Go.Proofs.YtgifhgnccmnbiabGreat
