/- The machine: a part of a pattern as it lies in memory: 124 cells in a block; what the program does to such a block as a whole. -/
import Derived.Test.YtgifhgnccmnbiabGreatG09
import Derived.Laws.Rows
import Derived.Laws.Tables
import Derived.Deep.MidRow
set_option linter.unusedVariables false
set_option linter.unusedSimpArgs false
set_option maxHeartbeats 4000000
set_option maxRecDepth 100000
namespace Go.Proofs.YtgifhgnccmnbiabGreat
open Go.RowKit Go.IntWalk
def pCell (p:GP) (i:Nat):Value:=
 if i=0 then .int .i64 (p.count:Int) else if i=1 then .bool p.empty else if i=2 then UV p.first else if i=3 then UV p.last
 else if i<64 then UV (p.next (i-4)) else .int .i64 (p.node (i-64):Int)
def gpCells (p:GP):Array Value:=cellsF 124 (pCell p)
@[simp] theorem gpCells_size (p:GP):(gpCells p).size=124:=cellsF_size _ _
theorem pCell_one (p:GP) (i:Nat):(pCell p i).oneCell'=true:=by
 unfold pCell
 repeat' split
 all_goals rfl
theorem gpCells_one (p:GP):(gpCells p).all (·.oneCell')=true:=cellsF_one fun j _=>pCell_one p j
theorem part_c0 (p:GP):(gpCells p)[0]?=some (.int .i64 (p.count:Int)):=cellsF_get _ (by decide)
theorem part_c1 (p:GP):(gpCells p)[1]?=some (.bool p.empty):=cellsF_get _ (by decide)
theorem part_c2 (p:GP):(gpCells p)[2]?=some (UV p.first):=cellsF_get _ (by decide)
theorem part_c3 (p:GP):(gpCells p)[3]?=some (UV p.last):=cellsF_get _ (by decide)
theorem part_next (p:GP) (i:Nat) (h:i<60):(gpCells p)[4+i]?=some (UV (p.next i)):=by
 unfold gpCells
 rw [cellsF_get _ (by omega)]
 unfold pCell
 rw [if_neg (by omega),if_neg (by omega),if_neg (by omega),if_neg (by omega),if_pos (by omega),show 4+i-4=i by omega]
theorem part_node (p:GP) (i:Nat) (h:i<60):(gpCells p)[64+i]?=some (.int .i64 (p.node i:Int)):=by
 unfold gpCells
 rw [cellsF_get _ (by omega)]
 unfold pCell
 rw [if_neg (by omega),if_neg (by omega),if_neg (by omega),if_neg (by omega),if_neg (by omega),show 64+i-64=i by omega]
theorem get_of {α:Type} {xs:Array α} {i:Nat} {v:α} (h:xs[i]?=some v) (hi:i<xs.size):xs[i]=v:=by
 rw [Array.getElem?_eq_getElem hi] at h;exact Option.some.inj h
theorem part_g0 (p:GP) (h:0<(gpCells p).size):(gpCells p)[0]=.int .i64 (p.count:Int):=get_of (part_c0 p) h
structure GP.Same (p q:GP):Prop where
 count:p.count=q.count
 empty:p.empty=q.empty
 first:p.first=q.first
 last:p.last=q.last
 next:∀i,i<60→p.next i=q.next i
 node:∀i,i<60→p.node i=q.node i
theorem gpCells_same {p q:GP} (h:p.Same q):gpCells p=gpCells q:=cellsF_congr fun j hj=>by
 unfold pCell
 rw [h.count,h.empty,h.first,h.last]
 repeat' split
 all_goals first | rfl | rw [h.next _ (by omega)] | rw [h.node _ (by omega)]
theorem part_set_count (p:GP) (n:Nat):(gpCells p).setIfInBounds 0 (.int .i64 (n:Int))=gpCells { p with count:=n }:=cellsF_set _ _ _ _ fun j hj=>by
 unfold pCell;split <;> rfl
theorem part_set_empty (p:GP) (b:Bool):(gpCells p).setIfInBounds 1 (.bool b)=gpCells { p with empty:=b }:=cellsF_set _ _ _ _ fun j hj=>by
 by_cases h:j=1
 · subst h;rfl
 · unfold pCell;simp only [if_neg h]
theorem part_set_first (p:GP) (s:B64):(gpCells p).setIfInBounds 2 (UV s)=gpCells { p with first:=s }:=cellsF_set _ _ _ _ fun j hj=>by
 by_cases h:j=2
 · subst h;rfl
 · unfold pCell;simp only [if_neg h]
theorem part_set_last (p:GP) (s:B64):(gpCells p).setIfInBounds 3 (UV s)=gpCells { p with last:=s }:=cellsF_set _ _ _ _ fun j hj=>by
 by_cases h:j=3
 · subst h;rfl
 · unfold pCell;simp only [if_neg h]
theorem part_set_next (p q:GP) (i:Nat) (s:B64) (hi:i<60) (hq:q.Same { p with next:=fun j=>if j=i then s else p.next j }):(gpCells p).setIfInBounds (4+i) (UV s)=gpCells q:=by
 rw [gpCells_same hq]
 refine cellsF_set _ _ _ _ fun j hj=>?_
 unfold pCell
 simp only []
 by_cases h:j=4+i
 · subst h
   rw [if_neg (by omega),if_neg (by omega),if_neg (by omega),if_neg (by omega),if_pos (by omega),if_pos (by omega),if_pos rfl]
 · rw [if_neg h]
   repeat' split
   all_goals first | rfl | omega
theorem part_set_node (p q:GP) (i:Nat) (n:Nat) (hi:i<60) (hq:q.Same { p with node:=fun j=>if j=i then n else p.node j }):(gpCells p).setIfInBounds (64+i) (.int .i64 (n:Int))=gpCells q:=by
 rw [gpCells_same hq]
 refine cellsF_set _ _ _ _ fun j hj=>?_
 unfold pCell
 simp only []
 by_cases h:j=64+i
 · subst h
   rw [if_neg (by omega),if_neg (by omega),if_neg (by omega),if_neg (by omega),if_neg (by omega),if_pos (by omega),if_pos rfl]
 · rw [if_neg h]
   repeat' split
   all_goals first | rfl | omega
theorem zero_part:(Tryz.prog.info? 107).map (fun i=>(i.zero,i.size))=some (some (.agg (gpCells {})),124):=by kernel_rfl
theorem zeroV_part (w:World):(zeroValue 107).run Tryz.prog w=.ok (.agg (gpCells {})) w:=by
 have h:=zero_part
 cases hq:Tryz.prog.info? 107 with
 | none=>simp [hq] at h
 | some i=>
   simp [hq] at h
   simp [zeroValue,typeInfo,hq,h.1]
theorem size_part:(Tryz.prog.info? 107).map (·.size)=some 124:=by kernel_rfl
theorem wpList_load_part {ops:Array Oper} {rest:List Oper} {o:Oper} {a:Act} {w:World} {Q:Exit→Act→World→Prop} (hgd:o.guard=none) (x:Operand) (ho:o.op=.load 107 x)
 (g:Nat) (hx:a.eval x=.pointer (some ⟨g,0,none⟩)) (p:GP) (hg:Blk w g (gpCells p) 107)
 (h:wpList Tryz.prog ops Q rest (a.put o.dst (.agg (gpCells p))) w):wpList Tryz.prog ops Q (o :: rest) a w:=
 wpList_load_row hgd _ x ho g hx _ _ _ _ hg Tryz.underlying107 rfl (by rw [gpCells_size];exact size_part) h
theorem Blk.storeRow {w:World} {g:Nat} {cs cs':Array Value} {t:TypeId} (h:Blk w g cs t):Blk (w.setRow g cs') g cs' t:=setRow_heap w g cs cs' t (0,0) h
theorem Kept.setRow (w:World) (g:Nat) (cs:Array Value):Kept [g] w (w.setRow g cs):=
 ⟨rfl,rfl,rfl,by simp,fun k hk hn=>setRow_other w g k cs (by rintro rfl;exact hn (List.mem_singleton_self _))⟩
theorem wpList_store_part {ops:Array Oper} {rest:List Oper} {o:Oper} {a:Act} {w:World} {Q:Exit→Act→World→Prop} (hgd:o.guard=none) (x y:Operand) (ho:o.op=.store 107 x y)
 (g:Nat) (hx:a.eval x=.pointer (some ⟨g,0,none⟩)) (q p:GP) (hy:a.eval y=.agg (gpCells p)) (hg:Blk w g (gpCells q) 107)
 (h:∀w',Blk w' g (gpCells p) 107→Kept [g] w w'→w'.heap.size=w.heap.size→wpList Tryz.prog ops Q rest (a.put o.dst undef) w'):wpList Tryz.prog ops Q (o :: rest) a w:=by
 refine wpList_plain hgd fun K hK=>?_
 have hr:=run_storeVar_row (P:=Tryz.prog) w g 107 107 (gpCells q) (gpCells p) hg (by rw [gpCells_size];exact size_part) (by simp) (gpCells_one p)
 unfold Oper.wp execOp
 simp only [ho,hx,hy,Instr.storeAt,Instr.sureAddr,Sem.run_bind,Sem.run_pure,Result.andThen_ok,hr]
 exact hK _ _ (h _ hg.storeRow (Kept.setRow w g _) (by simp))
theorem Blk.new1 (w:World) (o1:Obj) (cs:Array Value) (e:TypeId):Blk ((w.alloc o1).alloc (.cells cs e)) (w.heap.size+1) cs e:=by
 have:=Blk.new (w.alloc o1) cs e;simpa using this
theorem Blk.new2 (w:World) (o1 o2:Obj) (cs:Array Value) (e:TypeId):Blk (((w.alloc o1).alloc o2).alloc (.cells cs e)) (w.heap.size+1+1) cs e:=by
 have:=Blk.new ((w.alloc o1).alloc o2) cs e;simpa using this
theorem Blk.new3 (w:World) (o1 o2 o3:Obj) (cs:Array Value) (e:TypeId):Blk ((((w.alloc o1).alloc o2).alloc o3).alloc (.cells cs e)) (w.heap.size+1+1+1) cs e:=by
 have:=Blk.new (((w.alloc o1).alloc o2).alloc o3) cs e;simpa using this
theorem Kept.into {w x w':World} {g:Nat} (h:Kept [] w x) (k:Kept [g] x w') (hg:w.heap.size≤g):Kept [] w w':=
 ⟨k.os.trans h.os,k.tape.trans h.tape,k.output.trans h.output,Nat.le_trans h.size k.size,fun i hi _=>(k.block i (Nat.lt_of_lt_of_le hi h.size) (by simp;omega)).trans (h.block i hi (by simp))⟩
theorem results_part {fn:Func} {r:Tmp} (h:fn.results=#[.cell r 107]) (tmps:Array Value) (w:World) (g:Nat) (p:GP)
 (hp:tmps.getD r undef=.pointer (some ⟨g,0,none⟩)) (hg:Blk w g (gpCells p) 107):(results fn tmps).run Tryz.prog w=.ok (.agg (gpCells p)) w:=
 results_cell_row h tmps w g _ _ _ _ hp hg Tryz.underlying107 rfl (by rw [gpCells_size];exact size_part)
def PartCall (f:Nat) (args:Array Value) (w:World) (p:GP):Prop:=
 Calls Tryz.prog f args w fun e w'=>e=.returned (.agg (gpCells p))∧Kept [] w w'
def linkedQ (a:GP) (fr dest:B64) (q:Nat):GP:={ a with next:=fun s=>if s<q∧fr.getLsbD s=true then a.next s|||dest else a.next s }
theorem linkedQ_off {a:GP} {fr dest:B64} {q:Nat} (h:fr.getLsbD q=false):linkedQ a fr dest (q+1)=linkedQ a fr dest q:=by
 unfold linkedQ
 congr 1
 funext s
 by_cases hs:s=q
 · subst hs;rw [if_neg (by simp [h]),if_neg (by simp [h])]
 · by_cases h1:s<q∧fr.getLsbD s=true
   · rw [if_pos ⟨by omega,h1.2⟩,if_pos h1]
   · rw [if_neg (fun hc=>h1 ⟨by omega,hc.2⟩),if_neg h1]
theorem linkedQ_on {a:GP} {fr dest:B64} {q:Nat} (h:fr.getLsbD q=true):(linkedQ a fr dest (q+1)).Same { linkedQ a fr dest q with next:=fun j=>if j=q then a.next q|||dest else (linkedQ a fr dest q).next j }:=by
 refine ⟨rfl,rfl,rfl,rfl,fun s _=>?_,fun _ _=>rfl⟩
 simp only [linkedQ]
 by_cases hs:s=q
 · subst hs;rw [if_pos ⟨by omega,h⟩,if_pos rfl]
 · rw [if_neg hs]
   by_cases h1:s<q∧fr.getLsbD s=true
   · rw [if_pos ⟨by omega,h1.2⟩,if_pos h1]
   · rw [if_neg (fun hc=>h1 ⟨by omega,hc.2⟩),if_neg h1]
theorem linked_any (a:GP) (fr dest:B64) (w:World):
 PartCall 111 #[.agg (gpCells a),UV fr,UV dest] w (linkedP a fr dest):=by
 unfold PartCall
 have hz:=zeroV_part
 go_enter Tryz.func111,Tryz.ntmps111
 go_wp2_with fail
 go_loopw [7] (fun iv wr=>∃q:Nat,iv=.int .i64 (q:Int)∧q≤60∧Blk wr w.heap.size (gpCells (linkedQ a fr dest q)) 107∧Blk wr (w.heap.size+1) (gpCells {}) 107∧Kept [] w wr) (fun iv _=>(60-intOf iv).toNat)
 case atStart=>
  have e0:gpCells (linkedQ a fr dest 0)=gpCells a:=gpCells_same ⟨rfl,rfl,rfl,rfl,fun i _=>by simp [linkedQ],fun _ _=>rfl⟩
  exact ⟨0,rfl,by omega,by rw [e0];exact (Blk.new _ _ _).alloc _,by have:=Blk.new (w.alloc (.cells (gpCells a) 107)) (gpCells {}) 107;simpa using this,((Kept.refl _ _).alloc _).alloc _⟩
 case round=>
  obtain ⟨q,rfl,hq,hb,hz2,hk⟩:=hrel
  have hsz:=hb.lt
  by_cases hlt:(q:Int)<60
  · have hqn:q<60:=by omega
    have hhas:Hid (∀w,Calls _ _ _ _ _):=fun w=>has_any fr q (by omega) w
    have hon:=linkedQ_on (a:=a) (fr:=fr) (dest:=dest) (q:=q)
    have hoff:=linkedQ_off (a:=a) (fr:=fr) (dest:=dest) (q:=q)
    have hOn:Hid (_→_):=hon
    have hOff:Hid (_→_):=hoff
    clear hon hoff
    have hor:=or_u (a.next q) dest
    have hnx:(linkedQ a fr dest q).next q=a.next q:=by simp [linkedQ]
    have hc:=hb.cell (4+q)
    rw [part_next _ _ hqn,hnx] at hc
    have hf:=hb.frozen (4+q)
    have hbH:Hid (Blk _ _ _ _):=hb
    have hzH:Hid (Blk _ _ _ _):=hz2
    have hkH:Hid (Kept _ _ _):=hk
    clear hb hz2 hk hnx
    cases hbit:fr.getLsbD q with
    | true=>
      have hbitH:Hid (_=_):=hbit
      rw [hbit] at hhas
      clear hbit
      go_wp2_with (go_at_call 69;refine (hhas.out _).mono ?_;rintro _ _ ⟨rfl,rfl⟩)
      refine ⟨⟨q+1,by go_num,by omega,?_,hzH.out.other _ _ (by omega),hkH.out.setCell (Or.inr (by simp)) _⟩,?_⟩
      · have:=hbH.out.set (4+q) (UV (a.next q|||dest))
        rw [part_set_next _ _ _ _ hqn (hOn.out hbitH.out)] at this
        exact this
      · simp only [intOf];omega
    | false=>
      have hbitH:Hid (_=_):=hbit
      rw [hbit] at hhas
      clear hbit
      go_wp2_with (go_at_call 69;refine (hhas.out _).mono ?_;rintro _ _ ⟨rfl,rfl⟩)
      refine ⟨⟨q+1,by go_num,by omega,?_,hzH.out,hkH.out⟩,?_⟩
      · rw [hOff.out hbitH.out];exact hbH.out
      · simp only [intOf];omega
  · have hqe:q=60:=by omega
    subst hqe
    have e1:gpCells (linkedQ a fr dest 60)=gpCells (linkedP a fr dest):=gpCells_same ⟨rfl,rfl,rfl,rfl,fun i _=>rfl,fun _ _=>rfl⟩
    rw [e1] at hb
    have hbH:Hid (Blk _ _ _ _):=hb
    have hzH:Hid (Blk _ _ _ _):=hz2
    have hkH:Hid (Kept _ _ _):=hk
    clear hb hz2 hk e1
    go_wp2_with (first | (refine wpList_load_part rfl (.tmp 3) rfl w.heap.size rfl _ hbH.out ?_) | (refine wpList_store_part rfl (.tmp 6) (.tmp 23) rfl (w.heap.size+1) rfl {} _ rfl hzH.out ?_;intro w5 hb5 hk5 hs5))
    exact bodyPost_ret (v:=.agg (gpCells (linkedP a fr dest))) (results_part Tryz.results111 _ _ _ _ rfl hb5) rfl ⟨rfl,hkH.out.into hk5 (by omega)⟩
theorem overlay_list (n:Nat) (off:Nat):∀(vs:List Value) (k:Nat) (f:Nat→Value),
 (vs.zipIdx k).foldl (fun cs (x:Value×Nat)=>cs.setIfInBounds (off+x.2) x.1) (cellsF n f)=cellsF n (fun i=>if off+k≤i∧i<off+k+vs.length then vs.getD (i-(off+k)) undef else f i)
 | [],k,f=>by
   simp only [List.zipIdx_nil,List.foldl_nil]
   refine cellsF_congr fun j _=>?_
   rw [if_neg (by rw [List.length_nil];omega)]
 | v :: vs,k,f=>by
   simp only [List.zipIdx_cons,List.foldl_cons]
   rw [cellsF_set f (fun i=>if i=off+k then v else f i) (off+k) v (fun j _=>rfl),overlay_list n off vs (k+1)]
   refine cellsF_congr fun j _=>?_
   simp only [List.length_cons]
   by_cases h1:off+(k+1)≤j∧j<off+(k+1)+vs.length
   · rw [if_pos h1,if_pos (by omega)]
     obtain ⟨d,rfl⟩:∃d,j=off+(k+1)+d:=⟨j-(off+(k+1)),by omega⟩
     rw [show off+(k+1)+d-(off+(k+1))=d by omega,show off+(k+1)+d-(off+k)=d+1 by omega]
     rfl
   · rw [if_neg h1]
     by_cases h2:j=off+k
     · subst h2;rw [if_pos rfl,if_pos (by omega),Nat.sub_self];rfl
     · rw [if_neg h2,if_neg (by omega)]
theorem overlay_F (n m off:Nat) (f g:Nat→Value):
 Array.foldl (fun cs (x:Value×Nat)=>cs.setIfInBounds (off+x.2) x.1) (cellsF n f) (cellsF m g).zipIdx 0 m=cellsF n (fun i=>if off≤i∧i<off+m then g (i-off) else f i):=by
 have hs:(cellsF m g).zipIdx.size=m:=by simp
 have e:∀F:Array Value→Value×Nat→Array Value,∀x,Array.foldl F x (cellsF m g).zipIdx 0 m=(cellsF m g).zipIdx.foldl F x:=fun F x=>by
  conv=>rhs;rw [hs]
 rw [e,←Array.foldl_toList,Array.toList_zipIdx,overlay_list n off _ 0 f]
 refine cellsF_congr fun j _=>?_
 simp only [Nat.add_zero,cellsF,List.length_map,List.length_range]
 by_cases h:off≤j∧j<off+m
 · rw [if_pos h,if_pos h]
   rw [List.getD_eq_getElem?_getD,List.getElem?_map,List.getElem?_range (by omega)]
   rfl
 · rw [if_neg h,if_neg h]
theorem build_part (w:World) (c:Nat) (p:GP):
 (Instr.build 107 #[(0,.int .i64 (c:Int)),(4,.agg (cellsF 60 (fun i=>UV (p.next i)))),(5,.agg (cellsF 60 (fun i=>.int .i64 (p.node i:Int))))]).run Tryz.prog w=.ok (.agg (gpCells { count:=c,next:=p.next,node:=p.node })) w:=by
 unfold Instr.build
 rw [Sem.run_bind,zeroV_part w]
 simp [Sem.run_bind,run_underlying Tryz.underlying107,go_sem]
 rw [part_set_count,show gpCells { count:=c }=cellsF 124 (pCell { count:=c }) from rfl,overlay_F,overlay_F]
 have hne:gpCells {}≠#[]:=fun h=>by have:=gpCells_size {};rw [h] at this;simp at this
 rw [if_neg hne,if_neg (by simp)]
 simp only [Sem.run_pure]
 congr 2
theorem build_none (w:World):(Instr.build 107 #[(1,.bool true)]).run Tryz.prog w=.ok (.agg (gpCells noneP)) w:=by
 unfold Instr.build
 rw [Sem.run_bind,zeroV_part w]
 simp [Sem.run_bind,run_underlying Tryz.underlying107,go_sem]
 have hne:gpCells {}≠#[]:=fun h=>by have:=gpCells_size {};rw [h] at this;simp at this
 rw [part_set_empty]
 simp [noneP,hne]
theorem build_step (w:World):(Instr.build 107 #[(0,.int .i64 1),(2,.int .u64 1),(3,.int .u64 1)]).run Tryz.prog w=.ok (.agg (gpCells { count:=1,first:=1#64,last:=1#64 })) w:=by
 unfold Instr.build
 rw [Sem.run_bind,zeroV_part w]
 simp [Sem.run_bind,run_underlying Tryz.underlying107,go_sem]
 have hne:gpCells {}≠#[]:=fun h=>by have:=gpCells_size {};rw [h] at this;simp at this
 have e:(((gpCells {}).setIfInBounds 0 (.int .i64 1)).setIfInBounds 2 (.int .u64 1)).setIfInBounds 3 (.int .u64 1)=gpCells { count:=1,first:=1#64,last:=1#64 }:=by
  have h0:=part_set_count {} 1
  have h1:=part_set_first { count:=1 } 1#64
  have h2:=part_set_last { count:=1,first:=1#64 } 1#64
  have e1:UV 1#64=.int .u64 1:=rfl
  rw [e1] at h1 h2
  rw [←h2,←h1,←h0]
  rfl
 rw [e]
 simp [hne]
theorem size_ways:(Tryz.prog.info? 104).map (·.size)=some 60:=by kernel_rfl
theorem size_nodes:(Tryz.prog.info? 105).map (·.size)=some 60:=by kernel_rfl
theorem wpList_load_ways {ops:Array Oper} {rest:List Oper} {o:Oper} {a:Act} {w:World} {Q:Exit→Act→World→Prop} (hgd:o.guard=none) (x:Operand) (ho:o.op=.load 104 x)
 (g:Nat) (hx:a.eval x=.pointer (some ⟨g,4,none⟩)) (p:GP) (hg:Blk w g (gpCells p) 107)
 (h:wpList Tryz.prog ops Q rest (a.put o.dst (.agg (cellsF 60 (fun i=>UV (p.next i))))) w):wpList Tryz.prog ops Q (o :: rest) a w:=
 wpList_load_mid hgd _ x ho g 4 hx (cellsF 60 (fun i=>UV (p.next i))).toList _ (fun j v hv=>by
  have hj:j<60:=by have:=(List.getElem?_eq_some_iff.1 hv).1;simpa using this
  rw [hg.cell,part_next _ _ hj,←hv,Array.getElem?_toList,cellsF_get _ hj]) Tryz.underlying104 rfl (by simpa using size_ways) (by simpa using h)
theorem wpList_load_nodes {ops:Array Oper} {rest:List Oper} {o:Oper} {a:Act} {w:World} {Q:Exit→Act→World→Prop} (hgd:o.guard=none) (x:Operand) (ho:o.op=.load 105 x)
 (g:Nat) (hx:a.eval x=.pointer (some ⟨g,64,none⟩)) (p:GP) (hg:Blk w g (gpCells p) 107)
 (h:wpList Tryz.prog ops Q rest (a.put o.dst (.agg (cellsF 60 (fun i=>.int .i64 (p.node i:Int))))) w):wpList Tryz.prog ops Q (o :: rest) a w:=
 wpList_load_mid hgd _ x ho g 64 hx (cellsF 60 (fun i=>.int .i64 (p.node i:Int))).toList _ (fun j v hv=>by
  have hj:j<60:=by have:=(List.getElem?_eq_some_iff.1 hv).1;simpa using this
  rw [hg.cell,part_node _ _ hj,←hv,Array.getElem?_toList,cellsF_get _ hj]) Tryz.underlying105 rfl (by simpa using size_nodes) (by simpa using h)
theorem wpList_build_value {P:Program} {ops:Array Oper} {rest:List Oper} {o:Oper} {a:Act} {w:World} {Q:Exit→Act→World→Prop} (hgd:o.guard=none) (t:TypeId) (parts:Array (Nat×Operand)) (ho:o.op=.build t parts)
 (vs:Array (Nat×Value)) (he:(parts.map fun x=>(x.1,a.eval x.2))=vs) (v:Value) (hv:(Instr.build t vs).run P w=.ok v w) (h:wpList P ops Q rest (a.put o.dst v) w):wpList P ops Q (o :: rest) a w:=by
 subst he
 refine wpList_plain hgd fun K hK=>?_
 unfold Oper.wp execOp
 simp only [ho,hv,Result.andThen_ok,Sem.run_bind,Sem.run_pure]
 exact hK _ _ h
theorem wpList_build_beside {ops:Array Oper} {rest:List Oper} {o:Oper} {a:Act} {w:World} {Q:Exit→Act→World→Prop} (hgd:o.guard=none) (x y z:Operand) (ho:o.op=.build 107 #[(0,x),(4,y),(5,z)])
 (c:Nat) (ci:Int) (hc:ci=(c:Int)) (p:GP) (hx:a.eval x=.int .i64 ci) (hy:a.eval y=.agg (cellsF 60 (fun i=>UV (p.next i)))) (hz:a.eval z=.agg (cellsF 60 (fun i=>.int .i64 (p.node i:Int))))
 (h:wpList Tryz.prog ops Q rest (a.put o.dst (.agg (gpCells { count:=c,next:=p.next,node:=p.node }))) w):wpList Tryz.prog ops Q (o :: rest) a w:=
 wpList_build_value hgd _ _ ho _ (by simp only [List.map_toArray,List.map_cons,List.map_nil,hx,hy,hz,hc]) _ (build_part w c p) h
theorem wpList_build_none {ops:Array Oper} {rest:List Oper} {o:Oper} {a:Act} {w:World} {Q:Exit→Act→World→Prop} (hgd:o.guard=none) (ho:o.op=.build 107 #[(1,.const (.bool true))])
 (h:wpList Tryz.prog ops Q rest (a.put o.dst (.agg (gpCells noneP))) w):wpList Tryz.prog ops Q (o :: rest) a w:=
 wpList_build_value hgd _ _ ho #[(1,.bool true)] (by simp [Act.eval]) _ (build_none w) h
theorem wpList_build_step {ops:Array Oper} {rest:List Oper} {o:Oper} {a:Act} {w:World} {Q:Exit→Act→World→Prop} (hgd:o.guard=none) (ho:o.op=.build 107 #[(0,.const (.int .i64 1)),(2,.const (.int .u64 1)),(3,.const (.int .u64 1))])
 (h:wpList Tryz.prog ops Q rest (a.put o.dst (.agg (gpCells { count:=1,first:=1#64,last:=1#64 }))) w):wpList Tryz.prog ops Q (o :: rest) a w:=
 wpList_build_value hgd _ _ ho #[(0,.int .i64 1),(2,.int .u64 1),(3,.int .u64 1)] (by simp [Act.eval]) _ (build_step w) h
def besideQ (a b:GP) (q:Nat):GP where
 count:=a.count+b.count
 next:=fun s=>if a.count≤s∧s<a.count+q∧s<60 then b.next (s-a.count) <<< a.count else a.next s
 node:=fun s=>if a.count≤s∧s<a.count+q∧s<60 then b.node (s-a.count) else a.node s
def besideW (a b:GP) (q:Nat):GP:={ besideQ a b (q+1) with node:=(besideQ a b q).node }
theorem besideW_of {a b:GP} {q:Nat} (h:a.count+q<60):(besideW a b q).Same { besideQ a b q with next:=fun j=>if j=a.count+q then b.next q <<< a.count else (besideQ a b q).next j }:=by
 refine ⟨rfl,rfl,rfl,rfl,fun s hs=>?_,fun _ _=>rfl⟩
 simp only [besideW,besideQ]
 by_cases h1:s=a.count+q
 · subst h1;rw [if_pos ⟨by omega,by omega,hs⟩,if_pos rfl,show a.count+q-a.count=q by omega]
 · rw [if_neg h1]
   by_cases h2:a.count≤s∧s<a.count+q∧s<60
   · rw [if_pos (by omega),if_pos h2]
   · rw [if_neg (by omega),if_neg h2]
theorem besideQ_of {a b:GP} {q:Nat} (h:a.count+q<60):(besideQ a b (q+1)).Same { besideW a b q with node:=fun j=>if j=a.count+q then b.node q else (besideW a b q).node j }:=by
 refine ⟨rfl,rfl,rfl,rfl,fun _ _=>rfl,fun s hs=>?_⟩
 simp only [besideW,besideQ]
 by_cases h1:s=a.count+q
 · subst h1;rw [if_pos ⟨by omega,by omega,hs⟩,if_pos rfl,show a.count+q-a.count=q by omega]
 · rw [if_neg h1]
   by_cases h2:a.count≤s∧s<a.count+q∧s<60
   · rw [if_pos (by omega),if_pos h2]
   · rw [if_neg (by omega),if_neg h2]
theorem beside_any (a b:GP) (hr:a.count+b.count≤60) (w:World):
 PartCall 110 #[.agg (gpCells a),.agg (gpCells b)] w (besideP a b):=by
 unfold PartCall
 have hz:=zeroV_part
 have ca:=part_g0 a
 have cb:=part_g0 b
 have hA:∀o1 o2,Blk (((w.alloc (.cells (gpCells a) 107)).alloc o1).alloc o2) w.heap.size (gpCells a) 107:=fun o1 o2=>((Blk.new _ _ _).alloc _).alloc _
 go_enter Tryz.func110,Tryz.ntmps110
 go_wp2_with (first
  | (refine wpList_load_ways rfl (.tmp 12) rfl w.heap.size rfl a (hA _ _) ?_)
  | (refine wpList_load_nodes rfl (.tmp 14) rfl w.heap.size rfl a (hA _ _) ?_)
  | (refine wpList_build_beside rfl (.tmp 11) (.tmp 13) (.tmp 15) rfl (a.count+b.count) _ (Int.natCast_add _ _).symm a rfl rfl rfl ?_)
  | (refine wpList_store_part rfl (.tmp 5) (.tmp 16) rfl (w.heap.size+1+1+1) rfl {} { count:=a.count+b.count,next:=a.next,node:=a.node } (by simp [Act.eval]) (Blk.new3 w (.cells (gpCells a) 107) (.cells (gpCells b) 107) (.cells (gpCells {}) 107) (gpCells {}) 107) ?_
     intro w5 hb5 hk5 hs5
     have b0:Blk w5 w.heap.size (gpCells a) 107:=((hA (.cells (gpCells b) 107) (.cells (gpCells {}) 107)).alloc (.cells (gpCells {}) 107)).kept hk5 (by simp;omega)
     have b1:Blk w5 (w.heap.size+1) (gpCells b) 107:=(((Blk.new1 w (.cells (gpCells a) 107) (gpCells b) 107).alloc (.cells (gpCells {}) 107)).alloc (.cells (gpCells {}) 107)).kept hk5 (by simp)
     have b2:Blk w5 (w.heap.size+1+1) (gpCells {}) 107:=((Blk.new2 w (.cells (gpCells a) 107) (.cells (gpCells b) 107) (gpCells {}) 107).alloc (.cells (gpCells {}) 107)).kept hk5 (by simp)
     have k0:Kept [] w w5:=(((((Kept.refl _ _).alloc _).alloc _).alloc _).alloc _).into hk5 (by omega)))
 go_loopw [6] (fun iv wr=>∃q:Nat,iv=.int .i64 (q:Int)∧q≤b.count∧Blk wr (w.heap.size+1+1+1) (gpCells (besideQ a b q)) 107∧Blk wr w.heap.size (gpCells a) 107∧Blk wr (w.heap.size+1) (gpCells b) 107∧Blk wr (w.heap.size+1+1) (gpCells {}) 107∧Kept [] w wr) (fun iv _=>((b.count:Int)-intOf iv).toNat)
 case atStart=>
  have e0:gpCells (besideQ a b 0)=gpCells { count:=a.count+b.count,next:=a.next,node:=a.node }:=gpCells_same ⟨rfl,rfl,rfl,rfl,fun i _=>by simp only [besideQ];rw [if_neg (by omega)],fun i _=>by simp only [besideQ];rw [if_neg (by omega)]⟩
  exact ⟨0,rfl,by omega,by rw [e0];exact hb5,b0,b1,b2,k0⟩
 case round=>
  obtain ⟨q,rfl,hq,d5,d0,d1,d2,dk⟩:=hrel
  have c0:wr.cell? ⟨w.heap.size,0,none⟩=some (.int .i64 (a.count:Int)):=by rw [d0.cell,part_c0]
  have c1:wr.cell? ⟨w.heap.size+1,0,none⟩=some (.int .i64 (b.count:Int)):=by rw [d1.cell,part_c0]
  have h5:Hid (Blk _ _ _ _):=d5
  have h0:Hid (Blk _ _ _ _):=d0
  have h1:Hid (Blk _ _ _ _):=d1
  have h2:Hid (Blk _ _ _ _):=d2
  have hk:Hid (Kept _ _ _):=dk
  clear ca cb hA hz
  by_cases hlt:(q:Int)<(b.count:Int)
  · have hqn:q<60:=by omega
    have hqa:a.count+q<60:=by omega
    have c2:wr.cell? ⟨w.heap.size+1,4+q,none⟩=some (UV (b.next q)):=by rw [d1.cell,part_next _ _ hqn]
    have c3:wr.cell? ⟨w.heap.size+1,64+q,none⟩=some (.int .i64 (b.node q:Int)):=by rw [d1.cell,part_node _ _ hqn]
    have c4:=d5.cell (4+(a.count+q))
    rw [part_next _ _ hqa] at c4
    have c5:=d5.cell (64+(a.count+q))
    rw [part_node _ _ hqa] at c5
    have f4:=d5.frozen (4+(a.count+q))
    have f5:=d5.frozen (64+(a.count+q))
    have hsh:=shl_u (b.next q) a.count
    have i1:(a.count:Int)+(q:Int)<60:=by omega
    have i2:((a.count:Int)+(q:Int)).toNat=a.count+q:=by omega
    have n5:Hid (Blk _ _ _ _):=((h5.out.drew.set (4+(a.count+q)) (UV (b.next q <<< a.count))).drew.set (64+(a.count+q)) (.int .i64 (b.node q:Int)))
    rw [part_set_next _ _ _ _ hqa (besideW_of hqa),part_set_node _ _ _ _ hqa (besideQ_of hqa)] at n5
    clear d5 d0 d1 d2 dk
    go_wp2_with fail
    go_region
    go_wp2_with fail
    go_region
    go_wp2
    refine ⟨⟨q+1,by go_num,by omega,n5.out,((h0.out.drew.other _ _ (by omega)).drew.other _ _ (by omega)),((h1.out.drew.other _ _ (by omega)).drew.other _ _ (by omega)),((h2.out.drew.other _ _ (by omega)).drew.other _ _ (by omega)),((hk.out.drew.setCell (Or.inr (by simp;omega)) _).drew.setCell (Or.inr (by simp;omega)) _)⟩,?_⟩
    simp only [intOf];omega
  · have hqe:q=b.count:=by omega
    subst hqe
    clear d5 d0 d1 d2 dk
    go_wp2_with (first | (refine wpList_load_part rfl (.tmp 5) rfl (w.heap.size+1+1+1) rfl _ h5.out ?_) | (refine wpList_store_part rfl (.tmp 4) (.tmp 54) rfl (w.heap.size+1+1) rfl {} _ rfl h2.out ?_;intro w6 hb6 hk6 hs6))
    exact bodyPost_ret (v:=.agg (gpCells (besideQ a b b.count))) (results_part Tryz.results110 _ _ _ _ rfl hb6) rfl ⟨rfl,hk.out.into hk6 (by omega)⟩
end Go.Proofs.YtgifhgnccmnbiabGreat
