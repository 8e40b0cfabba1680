/- Package packed: a text by rules in memory; what a symbol stands for. -/
import Derived.Test.YtgifhgnccmnbiabGreatG23
import Derived.Test.YtgifhgnccmnbiabGreatG05
set_option linter.unusedVariables false
set_option linter.unusedSimpArgs false
set_option maxHeartbeats 4000000
set_option maxRecDepth 100000
namespace Go.Proofs.YtgifhgnccmnbiabGreat
open Go.RowKit Go.IntWalk
structure Fra (B b:Nat) (w w':World):Prop where
 os:w'.os=w.os
 tape:w'.tape=w.tape
 output:w'.output=w.output
 size:w.heap.size≤w'.heap.size
 block:∀k,k<B→k≠b→w'.heap[k]?=w.heap[k]?
theorem Fra.refl (B b:Nat) (w:World):Fra B b w w:=⟨rfl,rfl,rfl,Nat.le_refl _,fun _ _ _=>rfl⟩
theorem Fra.trans {B b:Nat} {u v w:World} (h:Fra B b u v) (k:Fra B b v w):Fra B b u w:=
 ⟨k.os.trans h.os,k.tape.trans h.tape,k.output.trans h.output,Nat.le_trans h.size k.size,fun i hi hb=>(k.block i hi hb).trans (h.block i hi hb)⟩
theorem Fra.of_kept {B b:Nat} {w w':World} (k:Kept [] w w') (hB:B≤w.heap.size):Fra B b w w':=⟨k.os,k.tape,k.output,k.size,fun i hi _=>k.block i (by omega) (by simp)⟩
theorem Fra.drew {B b:Nat} {w w':World} (h:Fra B b w w'):Fra B b w w'.drew:=⟨h.os,h.tape,h.output,h.size,h.block⟩
theorem Fra.set {B b:Nat} {w w':World} (h:Fra B b w w') {p:Addr} (hp:p.block=b∨B≤p.block) (u:Value):Fra B b w (w'.setCell p u):=
 ⟨h.os,h.tape,h.output,by simpa [World.setCell] using h.size,fun k hk hb=>by
  rw [Below.heap_setCell _ _ _ _ (by rintro rfl;omega)];exact h.block k hk hb⟩
theorem Fra.blk {B b k:Nat} {w w':World} {cs:Array Value} {e:TypeId} (h:Fra B b w w') (hk:Blk w k cs e) (h1:k<B) (h2:k≠b):Blk w' k cs e:=(h.block k h1 h2).trans hk
theorem Fra.below {B b:Nat} {w w':World} (h:Fra B b w w') {C:Nat} (hC:C≤B) (hb:C≤b):Below C w w':=⟨h.os,h.tape,h.output,h.size,fun k hk=>h.block k (by omega) (by omega)⟩
structure TT where
 kind:Int
 syms:Nat:=0
 rules:List RU:=[]
 start:List Nat:=[]
 whole:PT:={}
def RU.cells (x:RU):List Value:=[.int .i64 x.l,.int .i64 x.r,.int .i64 x.pt.len,.int .i64 x.pt.nl,.int .i64 x.pt.first,.int .i64 x.pt.last]
def ruCells (l:List RU):List Value:=l.flatMap RU.cells
def symCells (l:List Nat):List Value:=l.map (fun (s:Nat)=>Value.int .i64 (s:Int))
def TT.cells (t:TT) (rv sv:Value):Array Value:=#[.int .i64 t.kind,.int .i64 t.syms,rv,sv,.int .i64 t.whole.len,.int .i64 t.whole.nl,.int .i64 t.whole.first,.int .i64 t.whole.last]
theorem ruCells_snoc (l:List RU) (x:RU):ruCells (l++[x])=ruCells l++x.cells:=by simp [ruCells]
theorem symCells_snoc (l:List Nat) (x:Nat):symCells (l++[x])=symCells l++[.int .i64 (x:Int)]:=by simp [symCells]
theorem ruCells_get:∀(l:List RU) (i j:Nat) (x:RU),l[i]?=some x→j<6→(ruCells l)[i*6+j]?=x.cells[j]?
 | [],i,j,x,h,_=>by simp at h
 | y :: l,0,j,x,h,hj=>by
   simp at h;subst h
   rw [Nat.zero_mul,Nat.zero_add]
   show (y.cells++ruCells l)[j]?=_
   rw [List.getElem?_append_left (by simp [RU.cells];omega)]
 | y :: l,i+1,j,x,h,hj=>by
   simp at h
   show (y.cells++ruCells l)[(i+1)*6+j]?=_
   rw [List.getElem?_append_right (by simp [RU.cells];omega)]
   have e:(i+1)*6+j-y.cells.length=i*6+j:=by simp [RU.cells];omega
   rw [e]
   exact ruCells_get l i j x h hj
structure TM (w:World) (b:Nat) (pre post:Array Value) (E B:Nat) (t:TT) (rv sv:Value):Prop where
 blk:Blk w b (pre++t.cells rv sv++post) E
 lt:b<B
 up:B≤w.heap.size
 rules:w.ownsRow B 159 6 rv t.rules.length (ruCells t.rules)
 start:w.ownsRow B 3 1 sv t.start.length (symCells t.start)
 small:∀x,x∈t.rules→PTsmall x.pt
 whole:PTsmall t.whole
theorem row_stay {w w2:World} {S:List Nat} {base e z n:Nat} {v:Value} {xs:List Value} (h:w.ownsRow base e z v n xs) (k:Kept S w w2) (hg:∀g,v.ownBlock=some g→¬g∈S):w2.ownsRow base e z v n xs:=by
 refine ⟨h.1,?_⟩
 rcases h.2 with h1 | ⟨g,cap,cur,h1,h2,h3,r⟩
 · exact Or.inl h1
 · exact Or.inr ⟨g,cap,cur,h1,h2,(k.block g (Array.getElem?_eq_some_iff.1 h3).1 (hg g (by rw [h1];rfl))).trans h3,r⟩
section
variable {w w':World} {b E B:Nat} {pre post:Array Value} {t:TT} {rv sv:Value}
theorem TM.cell (h:TM w b pre post E B t rv sv) {o:Nat} (ho:o=pre.size) (j:Nat) (hj:j<8):w.cell? ⟨b,o+j,none⟩=(t.cells rv sv)[j]?:=by
 rw [h.blk.cell,ho,Array.append_assoc,Array.getElem?_append_right (by omega),Array.getElem?_append_left (by simp [TT.cells];omega),Nat.add_sub_cancel_left]
theorem TM.kept (h:TM w b pre post E B t rv sv) (k:Kept [] w w'):TM w' b pre post E B t rv sv:=
 ⟨h.blk.kept k (by simp),h.lt,Nat.le_trans h.up k.size,row_stay (S:=[]) h.rules k (fun _ _=>by simp),row_stay (S:=[]) h.start k (fun _ _=>by simp),h.small,h.whole⟩
theorem TM.other (h:TM w b pre post E B t rv sv) {b':Nat} (k:Kept [b'] w w') (h1:b'<B) (h2:b'≠b):TM w' b pre post E B t rv sv:=
 ⟨h.blk.kept k (by simp;omega),h.lt,Nat.le_trans h.up k.size,row_stay (S:=[b']) h.rules k (fun g hg hc=>by simp at hc;have:=(h.rules.lt g hg).1;omega),row_stay (S:=[b']) h.start k (fun g hg hc=>by simp at hc;have:=(h.start.lt g hg).1;omega),h.small,h.whole⟩
end
def ruleAt (rs:List RU) (s:Int):RU:=if 0≤s-256 then (rs[(s-256).toNat]?).getD ⟨0,0,{}⟩ else ⟨0,0,{}⟩
def RU.val (x:RU):Value:=.agg x.cells.toArray
theorem ptr_add (g j:Nat):(⟨g,0,none⟩:Addr).add j=⟨g,j,none⟩:=by unfold Addr.add;split <;> simp_all
theorem rule_any {w:World} {b E B:Nat} {pre post:Array Value} {t:TT} {rv sv:Value} (h:TM w b pre post E B t rv sv) {o:Nat} (ho:o=pre.size) (s:Nat) (hs:s≤100000) (hl:t.rules.length≤100000):
 Calls Tryz.prog 71 #[.pointer (some ⟨b,o,none⟩),.int .i64 (s:Int)] w fun e w'=>e=.returned (ruleAt t.rules s).val∧Kept [] w w':=by
 have hk:Hid (∀o1,Kept [] w (w.alloc o1)):=fun o1=>(Kept.refl [] w).alloc _
 have c2:w.cell? ⟨b,o+2,none⟩=some rv:=h.cell ho 2 (by omega)
 have hbw:b<w.heap.size:=h.blk.lt
 by_cases h1:(s:Int)-256<0
 · have e:ruleAt t.rules s=⟨0,0,{}⟩:=by unfold ruleAt;rw [if_neg (by omega)]
   rw [e]
   unfold RU.val RU.cells
   clear h e c2
   go_enter Tryz.func71,Tryz.ntmps71
   go_wp2
   refine bodyPost_ret (v:=.agg #[.int .i64 0,.int .i64 0,.int .i64 0,.int .i64 0,.int .i64 0,.int .i64 0]) (by simp [results,Tryz.results71,go_sem]) rfl ⟨rfl,hk.out _⟩
 · obtain ⟨k,rfl⟩:∃k:Nat,s=k+256:=⟨s-256,by omega⟩
   have hn:Hid (∀x,t.rules[k]?=x→ruleAt t.rules ((k+256:Nat):Int)=x.getD ⟨0,0,{}⟩):=fun x hx=>by
    unfold ruleAt;rw [if_pos (by omega),show (((k+256:Nat):Int)-256).toNat=k by omega,hx]
   clear h1
   by_cases h2:k<t.rules.length
   · obtain ⟨x,hx⟩:∃x,t.rules[k]?=some x:=⟨_,List.getElem?_eq_getElem h2⟩
     rw [hn.out _ hx]
     obtain ⟨g,cap,rfl⟩:=own_form h.rules (by omega)
     have hgw:g<w.heap.size:=(h.rules.lt g rfl).2
     have hc:∀j,j<6→w.cell? ⟨g,k*6+j,none⟩=x.cells[j]?:=fun j hj=>by
      obtain ⟨u,hu⟩:∃u,x.cells[j]?=some u:=⟨_,List.getElem?_eq_getElem (by simp [RU.cells];omega)⟩
      have:=h.rules.cells (g:=g) rfl (k*6+j) u (by rw [ruCells_get _ _ _ _ hx hj];exact hu)
      rw [ptr_add] at this
      rw [this,hu]
     obtain ⟨l,r,⟨p1,p2,p3,p4⟩⟩:=x
     have d0:w.cell? ⟨g,k*6,none⟩=some (.int .i64 l):=hc 0 (by omega)
     have d1:w.cell? ⟨g,k*6+1,none⟩=some (.int .i64 r):=hc 1 (by omega)
     have d2:w.cell? ⟨g,k*6+2,none⟩=some (.int .i64 p1):=hc 2 (by omega)
     have d3:w.cell? ⟨g,k*6+3,none⟩=some (.int .i64 p2):=hc 3 (by omega)
     have d4:w.cell? ⟨g,k*6+4,none⟩=some (.int .i64 p3):=hc 4 (by omega)
     have d5:w.cell? ⟨g,k*6+5,none⟩=some (.int .i64 p4):=hc 5 (by omega)
     show Calls _ _ _ _ (fun e w'=>e=.returned (.agg #[.int .i64 l,.int .i64 r,.int .i64 p1,.int .i64 p2,.int .i64 p3,.int .i64 p4])∧Kept [] w w')
     generalize t.rules.length=n at *
     have lt:(k:Int)<(n:Int):=by omega
     clear h hc hx hn ho
     go_enter Tryz.func71,Tryz.ntmps71
     go_wp2
     refine bodyPost_ret (v:=.agg #[.int .i64 l,.int .i64 r,.int .i64 p1,.int .i64 p2,.int .i64 p3,.int .i64 p4]) (by simp [results,Tryz.results71,go_sem]) rfl ⟨rfl,hk.out _⟩
   · rw [hn.out none (List.getElem?_eq_none (by omega))]
     show Calls _ _ _ _ (fun e w'=>e=.returned (.agg #[.int .i64 0,.int .i64 0,.int .i64 0,.int .i64 0,.int .i64 0,.int .i64 0])∧Kept [] w w')
     have hv:∃a cap,rv=.slice a t.rules.length cap:=by
      rcases h.rules.2 with ⟨h3,h4⟩ | ⟨g,cap,_,h3,_⟩
      · exact ⟨none,0,by rw [h3,h4]⟩
      · exact ⟨_,cap,h3⟩
     obtain ⟨a,cap,rfl⟩:=hv
     generalize t.rules.length=n at *
     have lt:¬(k:Int)<(n:Int):=by omega
     clear h hn ho h2
     go_enter Tryz.func71,Tryz.ntmps71
     go_wp2
     refine bodyPost_ret (v:=.agg #[.int .i64 0,.int .i64 0,.int .i64 0,.int .i64 0,.int .i64 0,.int .i64 0]) (by simp [results,Tryz.results71,go_sem]) rfl ⟨rfl,hk.out _⟩
theorem TM.part_small {w:World} {b E B:Nat} {pre post:Array Value} {t:TT} {rv sv:Value} (h:TM w b pre post E B t rv sv) (s:Nat):PTsmall (partAt t.rules s):=by
 unfold partAt
 split
 · exact byteP_small s
 · cases hx:t.rules[s-256]? with
   | none=>exact ⟨by simp,by simp⟩
   | some x=>exact h.small x (List.mem_of_getElem? hx)
theorem kept4 {w w1:World} (k:Kept [] w w1) {g:Nat} (hg:w.heap.size≤g) (u0 u1 u2 u3:Value):
 Kept [] w ((((w1.setCell ⟨g,0,none⟩ u0).setCell ⟨g,1,none⟩ u1).setCell ⟨g,2,none⟩ u2).setCell ⟨g,3,none⟩ u3):=
 (((k.setCell (Or.inr hg) _).setCell (Or.inr hg) _).setCell (Or.inr hg) _).setCell (Or.inr hg) _
def zero4:Array Value:=#[.int .i64 0,.int .i64 0,.int .i64 0,.int .i64 0]
theorem set4 {w:World} {g:Nat} {E:TypeId} (h:Blk w g zero4 E) (u0 u1 u2 u3:Value):
 Blk ((((w.setCell ⟨g,0,none⟩ u0).setCell ⟨g,1,none⟩ u1).setCell ⟨g,2,none⟩ u2).setCell ⟨g,3,none⟩ u3) g #[u0,u1,u2,u3] E:=
 (((h.set 0 u0).set 1 u1).set 2 u2).set 3 u3
theorem size_ppart:(Tryz.prog.info? 59).map (·.size)=some 4:=by kernel_rfl
theorem field_part (l r p1 p2 p3 p4:Value) (w:World):(Instr.field 159 (.agg #[l,r,p1,p2,p3,p4]) 2).run Tryz.prog w=.ok (.agg #[p1,p2,p3,p4]) w:=by kernel_rfl
theorem results_ppart {fn:Func} {r:Tmp} (h:fn.results=#[.cell r 59]) (tmps:Array Value) (w:World) (g:Nat) (p:PT)
 (hp:tmps.getD r undef=.pointer (some ⟨g,0,none⟩)) (hg:Blk w g p.arr 59):(results fn tmps).run Tryz.prog w=.ok p.val w:=
 results_cell_row h tmps w g _ _ _ _ hp hg Tryz.underlying59 rfl size_ppart
theorem part_any {w:World} {b E B:Nat} {pre post:Array Value} {t:TT} {rv sv:Value} (h:TM w b pre post E B t rv sv) {o:Nat} (ho:o=pre.size) (s:Nat) (hs:s≤100000) (hl:t.rules.length≤100000):
 Calls Tryz.prog 85 #[.pointer (some ⟨b,o,none⟩),.int .i64 (s:Int)] w fun e w'=>e=.returned (partAt t.rules s).val∧Kept [] w w':=by
 have hk:Kept [] w (w.alloc (.cells zero4 59)):=(Kept.refl [] w).alloc _
 have hfin:Hid (∀w1,Kept [] (w.alloc (.cells zero4 59)) w1→Blk w1 w.heap.size zero4 59∧(∀u0 u1 u2 u3,Blk ((((w1.setCell ⟨w.heap.size,0,none⟩ u0).setCell ⟨w.heap.size,1,none⟩ u1).setCell ⟨w.heap.size,2,none⟩ u2).setCell ⟨w.heap.size,3,none⟩ u3) w.heap.size #[u0,u1,u2,u3] 59)∧∀u0 u1 u2 u3,Kept [] w ((((w1.setCell ⟨w.heap.size,0,none⟩ u0).setCell ⟨w.heap.size,1,none⟩ u1).setCell ⟨w.heap.size,2,none⟩ u2).setCell ⟨w.heap.size,3,none⟩ u3)):=fun w1 k1=>
  ⟨(Blk.new w _ _).kept k1 (by simp),fun u0 u1 u2 u3=>set4 ((Blk.new w _ _).kept k1 (by simp)) u0 u1 u2 u3,fun u0 u1 u2 u3=>kept4 (hk.trans k1) (Nat.le_refl _) u0 u1 u2 u3⟩
 by_cases h1:(s:Int)<256
 · have e:partAt t.rules s=byteP s:=by unfold partAt;rw [if_pos (by omega)]
   rw [e]
   have hb:Hid (∀w,Calls _ _ _ w _):=fun w=>partOfByte_any s w
   clear e h ho hk
   generalize byteP s=p at *
   obtain ⟨p1,p2,p3,p4⟩:=p
   unfold PT.val PT.arr at hb ⊢
   unfold zero4 at hfin
   simp only [] at hb ⊢
   go_enter Tryz.func85,Tryz.ntmps85
   go_wp2_with fail
   refine (hb.out _).mono ?_
   rintro e w1 ⟨rfl,k1⟩
   obtain ⟨hb1,hS,hK⟩:=hfin.out _ k1
   have hS:Hid (∀u0 u1 u2 u3,_):=hS
   have hK:Hid (∀u0 u1 u2 u3,_):=hK
   have c0:w1.cell? ⟨w.heap.size,0,none⟩=some (.int .i64 0):=hb1.cell 0
   have c1:w1.cell? ⟨w.heap.size,1,none⟩=some (.int .i64 0):=hb1.cell 1
   have c2:w1.cell? ⟨w.heap.size,2,none⟩=some (.int .i64 0):=hb1.cell 2
   have c3:w1.cell? ⟨w.heap.size,3,none⟩=some (.int .i64 0):=hb1.cell 3
   have f0:w1.frozen? ⟨w.heap.size,0,none⟩=false:=hb1.frozen 0
   have f1:w1.frozen? ⟨w.heap.size,1,none⟩=false:=hb1.frozen 1
   have f2:w1.frozen? ⟨w.heap.size,2,none⟩=false:=hb1.frozen 2
   have f3:w1.frozen? ⟨w.heap.size,3,none⟩=false:=hb1.frozen 3
   clear hb1 k1 hb hfin
   go_wp2
   exact bodyPost_ret (v:=.agg #[.int .i64 p1,.int .i64 p2,.int .i64 p3,.int .i64 p4]) (results_ppart Tryz.results85 _ _ w.heap.size ⟨p1,p2,p3,p4⟩ rfl (hS.out _ _ _ _)) rfl ⟨rfl,hK.out _ _ _ _⟩
 · have e:(ruleAt t.rules s).pt=partAt t.rules s:=by
    unfold ruleAt partAt
    rw [if_pos (by omega),if_neg (by omega),show ((s:Int)-256).toNat=s-256 by omega]
    cases t.rules[s-256]? <;> rfl
   have hr:Hid (Calls _ _ _ (w.alloc (.cells zero4 59)) _):=rule_any (h.kept hk) ho s hs hl
   rw [←e]
   clear e h hk ho
   generalize ruleAt t.rules (s:Int)=x at *
   obtain ⟨l,r,⟨p1,p2,p3,p4⟩⟩:=x
   unfold RU.val RU.cells at hr
   unfold PT.val PT.arr
   unfold zero4 at hfin hr
   simp only [] at hr ⊢
   have hfp:=field_part
   go_enter Tryz.func85,Tryz.ntmps85
   go_wp2_with fail
   refine hr.out.mono ?_
   rintro e w1 ⟨rfl,k1⟩
   obtain ⟨hb1,hS,hK⟩:=hfin.out _ k1
   have hS:Hid (∀u0 u1 u2 u3,_):=hS
   have hK:Hid (∀u0 u1 u2 u3,_):=hK
   have c0:w1.cell? ⟨w.heap.size,0,none⟩=some (.int .i64 0):=hb1.cell 0
   have c1:w1.cell? ⟨w.heap.size,1,none⟩=some (.int .i64 0):=hb1.cell 1
   have c2:w1.cell? ⟨w.heap.size,2,none⟩=some (.int .i64 0):=hb1.cell 2
   have c3:w1.cell? ⟨w.heap.size,3,none⟩=some (.int .i64 0):=hb1.cell 3
   have f0:w1.frozen? ⟨w.heap.size,0,none⟩=false:=hb1.frozen 0
   have f1:w1.frozen? ⟨w.heap.size,1,none⟩=false:=hb1.frozen 1
   have f2:w1.frozen? ⟨w.heap.size,2,none⟩=false:=hb1.frozen 2
   have f3:w1.frozen? ⟨w.heap.size,3,none⟩=false:=hb1.frozen 3
   clear hb1 k1 hr hfin
   go_wp2
   exact bodyPost_ret (v:=.agg #[.int .i64 p1,.int .i64 p2,.int .i64 p3,.int .i64 p4]) (results_ppart Tryz.results85 _ _ w.heap.size ⟨p1,p2,p3,p4⟩ rfl (hS.out _ _ _ _)) rfl ⟨rfl,hK.out _ _ _ _⟩
section
variable {w w0 w1:World} {b E B:Nat} {pre post:Array Value} {t:TT} {rv sv:Value}
theorem TM.grow_rules (h:TM w0 b pre post E B t rv sv) (g:w0.grownBy w1 rv.ownBlock):Blk w1 b (pre++t.cells rv sv++post) E∧w1.ownsRow B 3 1 sv t.start.length (symCells t.start)∧Fra B b w0 w1:=by
 have hlow:∀k,k<B→some k≠rv.ownBlock:=fun k hk hc=>by have:=(h.rules.lt k hc.symm).1;omega
 refine ⟨(g.block b h.blk.lt (hlow b h.lt)).trans h.blk,World.ownsRow.kept h.start g (own_ne h.start h.rules (by decide)),⟨g.os,g.tape,g.output,g.size,fun k hk _=>g.block k (Nat.lt_of_lt_of_le hk h.up) (hlow k hk)⟩⟩
theorem TM.grow_start (h:TM w0 b pre post E B t rv sv) (g:w0.grownBy w1 sv.ownBlock):Blk w1 b (pre++t.cells rv sv++post) E∧w1.ownsRow B 159 6 rv t.rules.length (ruCells t.rules)∧Fra B b w0 w1:=by
 have hlow:∀k,k<B→some k≠sv.ownBlock:=fun k hk hc=>by have:=(h.start.lt k hc.symm).1;omega
 refine ⟨(g.block b h.blk.lt (hlow b h.lt)).trans h.blk,World.ownsRow.kept h.rules g (own_ne h.rules h.start (by decide)),⟨g.os,g.tape,g.output,g.size,fun k hk _=>g.block k (Nat.lt_of_lt_of_le hk h.up) (hlow k hk)⟩⟩
theorem row_set {e z n:Nat} {v:Value} {xs:List Value} (h:w.ownsRow B e z v n xs) (hb:b<B) (j:Nat) (u:Value):(w.setCell ⟨b,j,none⟩ u).ownsRow B e z v n xs:=
 row_stay (S:=[b]) h ((Kept.refl [b] w).setCell (Or.inl (by simp)) u) (fun g hg hc=>by simp at hc;have:=(h.lt g hg).1;omega)
theorem text_set {cs cs':Array Value} (hb:Blk w b (pre++cs++post) E) {o j:Nat} (ho:o=pre.size) (hj:j<cs.size) (u:Value) (e:cs.setIfInBounds j u=cs'):Blk (w.setCell ⟨b,o+j,none⟩ u) b (pre++cs'++post) E:=by
 have h:=hb.set (o+j) u
 rwa [show (pre++cs++post).setIfInBounds (o+j) u=pre++cs'++post by
  subst ho
  rw [←e]
  apply Array.ext'
  simp only [Array.toList_setIfInBounds,Array.toList_append,List.append_assoc]
  rw [List.set_append,if_neg (by simp),List.set_append,if_pos (by simp;omega)]
  simp] at h
end
theorem infoRule:(Tryz.prog.info? 159).map (fun i=>(i.zero,i.size,i.bytes)) =
 some (some (.agg #[.int .i64 0,.int .i64 0,.int .i64 0,.int .i64 0,.int .i64 0,.int .i64 0]),6,48):=by kernel_rfl
theorem infoInt:(Tryz.prog.info? 3).map (fun i=>(i.zero,i.size,i.bytes))=some (some (.int .i64 0),1,8):=by kernel_rfl
section
variable {w0 w1:World} {b E B:Nat} {pre post:Array Value} {t:TT} {rv sv:Value}
theorem rule_fin (h:TM w0 b pre post E B t rv sv) (g:w0.grownBy w1 rv.ownBlock) {v':Value} {x:RU} (hx:PTsmall x.pt) (hown:w1.ownsRow B 159 6 v' (t.rules.length+1) (ruCells t.rules++x.cells)) {o:Nat} (ho:o=pre.size):
 w1.cell? ⟨b,o+2,none⟩=some rv∧w1.frozen? ⟨b,o+2,none⟩=false∧b<w1.heap.size ∧
 TM (w1.setCell ⟨b,o+2,none⟩ v') b pre post E B { t with rules:=t.rules++[x] } v' sv∧Fra B b w0 (w1.setCell ⟨b,o+2,none⟩ v'):=by
 obtain ⟨hb,hs,hf⟩:=h.grow_rules g
 have hc:w1.cell? ⟨b,o+2,none⟩=some rv:=by
  rw [hb.cell,ho,Array.append_assoc,Array.getElem?_append_right (by omega),Array.getElem?_append_left (by simp [TT.cells]),Nat.add_sub_cancel_left];rfl
 refine ⟨hc,hb.frozen _,hb.lt,⟨?_,h.lt,?_,?_,?_,?_,h.whole⟩,?_⟩
 · exact text_set (cs:=t.cells rv sv) (cs':=TT.cells { t with rules:=t.rules++[x] } v' sv) hb ho (by simp [TT.cells]) v' rfl
 · have:=hf.size;have:=h.up;simp [World.setCell];omega
 · rw [show ({ t with rules:=t.rules++[x] }:TT).rules=t.rules++[x] from rfl,ruCells_snoc,List.length_append]
   exact row_set hown h.lt _ _
 · exact row_set hs h.lt _ _
 · intro y hy
   rcases List.mem_append.1 hy with hy | hy
   · exact h.small y hy
   · simp at hy;subst hy;exact hx
 · exact hf.set (Or.inl rfl) _
end
theorem addRule_any {w:World} {b E B:Nat} {pre post:Array Value} {t:TT} {rv sv:Value} (h:TM w b pre post E B t rv sv) {o:Nat} (ho:o=pre.size) (l r:Nat) (hl:l≤100000) (hr:r≤100000) (hlen:t.rules.length≤90000):
 Calls Tryz.prog 59 #[.pointer (some ⟨b,o,none⟩),.int .i64 (l:Int),.int .i64 (r:Int)] w fun e w'=>e=.returned (.tuple #[])∧Fra B b w w'∧∃v',TM w' b pre post E B { t with rules:=t.rules++[ruleP t.rules l r] } v' sv:=by
 obtain ⟨i0,hi0,hz0,hz1,hz2⟩:=info_parts infoRule
 have h1:Hid (∀w',Kept [] w w'→Calls _ _ _ w' _):=fun w' k=>part_any (h.kept k) ho l hl (by omega)
 have h2:Hid (∀w',Kept [] w w'→Calls _ _ _ w' _):=fun w' k=>part_any (h.kept k) ho r hr (by omega)
 have hj:Hid (∀w,Calls _ _ _ w _):=fun w=>pjoin_any (partAt t.rules l) (partAt t.rules r) (h.part_small l) (h.part_small r) w
 have hsm:PTsmall (ruleP t.rules l r).pt:=joinP_small (h.part_small l) (h.part_small r)
 obtain ⟨x,hx⟩:∃x,x=ruleP t.rules l r:=⟨_,rfl⟩
 have hp:joinP (partAt t.rules l) (partAt t.rules r)=x.pt:=by rw [hx];rfl
 have hxl:x.l=l:=by rw [hx];rfl
 have hxr:x.r=r:=by rw [hx];rfl
 rw [←hx] at hsm ⊢
 rw [hp] at hj
 clear hp hx
 obtain ⟨l',r',⟨p1,p2,p3,p4⟩⟩:=x
 simp only [] at hxl hxr
 subst hxl hxr
 generalize partAt t.rules l'=pa at *
 generalize partAt t.rules r'=pb at *
 obtain ⟨a1,a2,a3,a4⟩:=pa
 obtain ⟨b1,b2,b3,b4⟩:=pb
 unfold PT.val PT.arr at h1 h2 hj
 simp only [] at h1 h2 hj
 have k0:Hid (Kept [] w w):=Kept.refl _ _
 have hoH:Hid (o=pre.size):=ho
 clear ho
 go_enter Tryz.func59,Tryz.ntmps59
 go_wp2_with fail
 refine (h1.out _ k0.out).mono ?_
 rintro e w1 ⟨rfl,k1⟩
 have k1H:Hid (∀o,Kept [] w (w1.alloc o)):=fun o=>(k0.out.trans k1).alloc o
 clear k1
 go_wp2_with fail
 refine (h2.out _ (k1H.out _)).mono ?_
 rintro e w2 ⟨rfl,k2⟩
 have hA:Blk w2 w1.heap.size #[.int .i64 a1,.int .i64 a2,.int .i64 a3,.int .i64 a4] 59:=(Blk.new w1 _ _).kept k2 (by simp)
 have d0:w2.cell? ⟨w1.heap.size,0,none⟩=some (.int .i64 a1):=hA.cell 0
 have d1:w2.cell? ⟨w1.heap.size,1,none⟩=some (.int .i64 a2):=hA.cell 1
 have d2:w2.cell? ⟨w1.heap.size,2,none⟩=some (.int .i64 a3):=hA.cell 2
 have d3:w2.cell? ⟨w1.heap.size,3,none⟩=some (.int .i64 a4):=hA.cell 3
 have hA1:w1.heap.size<w2.heap.size:=hA.lt
 have k2H:Hid (∀o,Kept [] w (w2.alloc o)):=fun o=>((k1H.out _).trans k2).alloc o
 clear k2 hA k1H h1 h2
 go_wp2_with fail
 refine (hj.out _).mono ?_
 rintro e w3 ⟨rfl,k3⟩
 have k3':=(k2H.out _).trans k3
 have hT:=h.kept k3'
 have c2:w3.cell? ⟨b,o+2,none⟩=some rv:=hT.cell hoH.out 2 (by omega)
 have hbw:b<w3.heap.size:=hT.blk.lt
 have hbup:b+1≤w3.heap.size:=hbw
 have k3H:Hid (∀o1 o2,Kept [] w ((w3.alloc o1).alloc o2).drew):=fun o1 o2=>((k3'.alloc o1).alloc o2).drew
 clear k3 k3' k2H hj d0 d1 d2 d3 hT
 go_wp2_with fail
 have own:∀o1 o2,((w3.alloc o1).alloc o2).ownsRow B 159 6 rv t.rules.length (ruCells t.rules):=fun o1 o2=>(h.kept (k3H.out o1 o2)).rules
 have up:∀o1 o2,B≤((w3.alloc o1).alloc o2).heap.size:=fun o1 o2=>(h.kept (k3H.out o1 o2)).up
 have mb:t.rules.length+1≤maxLen:=by unfold maxLen;omega
 go_region_law (refine step_append_owned rfl (.tmp 25) (.tmp 27) 57 rfl 159 i0 _ 6 48 Tryz.underlying57 hi0 hz0 hz1 hz2 rfl (by decide) B rv t.rules.length (ruCells t.rules) (by simp [Act.eval,Act.put]) (by exact own _ _) ⟨w3.heap.size+1,0,none⟩ 1 1 [.int .i64 l',.int .i64 r',.int .i64 p1,.int .i64 p2,.int .i64 p3,.int .i64 p4] (by simp [Act.eval,Act.put]) rfl (by exact cells_new _ _ _ _ (by simp)) (by simp [Value.oneCell']) mb (by omega) (by exact up _ _) ?_;intro v' w4 hown hgrow;obtain ⟨g,cap,rfl⟩:=own_form hown (by omega);obtain ⟨e2,f2,b2,hT2,hF2⟩:=rule_fin (x:=⟨l',r',⟨p1,p2,p3,p4⟩⟩) (h.kept (k3H.out _ _)) hgrow hsm hown hoH.out)
 all_goals
  have hT3:Hid (TM _ _ _ _ _ _ _ _ _):=hT2
  have hF3:Hid (Fra B b w _):=(Fra.of_kept (k3H.out _ _) h.up).trans hF2
  clear hT2 hF2 hown hgrow own up
  go_wp2
  go_end0
  exact ⟨rfl,hF3.out,_,hT3.out⟩
section
variable {w0 w1:World} {b E B:Nat} {pre post:Array Value} {t:TT} {rv sv:Value}
theorem start_fin (h:TM w0 b pre post E B t rv sv) (g:w0.grownBy w1 sv.ownBlock) {v':Value} {x:Nat} (hown:w1.ownsRow B 3 1 v' (t.start.length+1) (symCells t.start++[.int .i64 (x:Int)])) {o:Nat} (ho:o=pre.size):
 w1.cell? ⟨b,o+3,none⟩=some sv∧w1.frozen? ⟨b,o+3,none⟩=false∧b<w1.heap.size∧(∀j,j<8→w1.cell? ⟨b,o+j,none⟩=(t.cells rv sv)[j]?) ∧
 TM (w1.setCell ⟨b,o+3,none⟩ v') b pre post E B { t with start:=t.start++[x] } rv v'∧Fra B b w0 (w1.setCell ⟨b,o+3,none⟩ v'):=by
 obtain ⟨hb,hs,hf⟩:=h.grow_start g
 have hc:w1.cell? ⟨b,o+3,none⟩=some sv:=by
  rw [hb.cell,ho,Array.append_assoc,Array.getElem?_append_right (by omega),Array.getElem?_append_left (by simp [TT.cells]),Nat.add_sub_cancel_left];rfl
 refine ⟨hc,hb.frozen _,hb.lt,fun j hj=>?_,⟨?_,h.lt,?_,?_,?_,h.small,h.whole⟩,?_⟩
 · rw [hb.cell,ho,Array.append_assoc,Array.getElem?_append_right (by omega),Array.getElem?_append_left (by simp [TT.cells];omega),Nat.add_sub_cancel_left]
 · exact text_set (cs:=t.cells rv sv) (cs':=TT.cells { t with start:=t.start++[x] } rv v') hb ho (by simp [TT.cells]) v' rfl
 · have:=hf.size;have:=h.up;simp [World.setCell];omega
 · exact row_set hs h.lt _ _
 · rw [show ({ t with start:=t.start++[x] }:TT).start=t.start++[x] from rfl,symCells_snoc,List.length_append]
   exact row_set hown h.lt _ _
 · exact hf.set (Or.inl rfl) _
theorem whole_fin (h:TM w0 b pre post E B t rv sv) {p:PT} (hp:PTsmall p) {o:Nat} (ho:o=pre.size):
 TM ((((w0.setCell ⟨b,o+4,none⟩ (.int .i64 p.len)).setCell ⟨b,o+5,none⟩ (.int .i64 p.nl)).setCell ⟨b,o+6,none⟩ (.int .i64 p.first)).setCell ⟨b,o+7,none⟩ (.int .i64 p.last)) b pre post E B { t with whole:=p } rv sv ∧
 Fra B b w0 ((((w0.setCell ⟨b,o+4,none⟩ (.int .i64 p.len)).setCell ⟨b,o+5,none⟩ (.int .i64 p.nl)).setCell ⟨b,o+6,none⟩ (.int .i64 p.first)).setCell ⟨b,o+7,none⟩ (.int .i64 p.last)):=by
 refine ⟨⟨?_,h.lt,by have:=h.up;simp [World.setCell];omega,?_,?_,h.small,hp⟩,?_⟩
 · have h4:=text_set (cs:=t.cells rv sv) (cs':=#[.int .i64 t.kind,.int .i64 t.syms,rv,sv,.int .i64 p.len,.int .i64 t.whole.nl,.int .i64 t.whole.first,.int .i64 t.whole.last]) h.blk ho (j:=4) (by simp [TT.cells]) (.int .i64 p.len) rfl
   have h5:=text_set (cs':=#[.int .i64 t.kind,.int .i64 t.syms,rv,sv,.int .i64 p.len,.int .i64 p.nl,.int .i64 t.whole.first,.int .i64 t.whole.last]) h4 ho (j:=5) (by simp) (.int .i64 p.nl) rfl
   have h6:=text_set (cs':=#[.int .i64 t.kind,.int .i64 t.syms,rv,sv,.int .i64 p.len,.int .i64 p.nl,.int .i64 p.first,.int .i64 t.whole.last]) h5 ho (j:=6) (by simp) (.int .i64 p.first) rfl
   exact text_set (cs':=TT.cells { t with whole:=p } rv sv) h6 ho (j:=7) (by simp) (.int .i64 p.last) rfl
 · exact row_set (row_set (row_set (row_set h.rules h.lt _ _) h.lt _ _) h.lt _ _) h.lt _ _
 · exact row_set (row_set (row_set (row_set h.start h.lt _ _) h.lt _ _) h.lt _ _) h.lt _ _
 · exact ((((Fra.refl B b w0).set (Or.inl rfl) _).set (Or.inl rfl) _).set (Or.inl rfl) _).set (Or.inl rfl) _
end
theorem addToStart_any {w:World} {b E B:Nat} {pre post:Array Value} {t:TT} {rv sv:Value} (h:TM w b pre post E B t rv sv) {o:Nat} (ho:o=pre.size) (s:Nat) (hs:s≤100000) (hlen:t.rules.length≤90000) (hst:t.start.length≤90000):
 Calls Tryz.prog 60 #[.pointer (some ⟨b,o,none⟩),.int .i64 (s:Int)] w fun e w'=>e=.returned (.tuple #[])∧Fra B b w w'∧∃v',TM w' b pre post E B { t with start:=t.start++[s],whole:=joinP t.whole (partAt t.rules s) } rv v':=by
 obtain ⟨i0,hi0,hz0,hz1,hz2⟩:=info_parts infoInt
 have h1:Hid (Calls _ _ _ w _):=part_any h ho s hs (by omega)
 have hj:Hid (∀w,Calls _ _ _ w _):=fun w=>pjoin_any t.whole (partAt t.rules s) h.whole (h.part_small s) w
 have hsm:PTsmall (joinP t.whole (partAt t.rules s)):=joinP_small h.whole (h.part_small s)
 generalize joinP t.whole (partAt t.rules s)=x at *
 obtain ⟨p1,p2,p3,p4⟩:=x
 generalize partAt t.rules s=pa at *
 obtain ⟨a1,a2,a3,a4⟩:=pa
 unfold PT.val PT.arr at h1 hj
 simp only [] at h1 hj
 have hoH:Hid (o=pre.size):=ho
 clear ho
 go_enter Tryz.func60,Tryz.ntmps60
 go_wp2_with fail
 refine h1.out.mono ?_
 rintro e w1 ⟨rfl,k1⟩
 have hT:=h.kept k1
 have c3:w1.cell? ⟨b,o+3,none⟩=some sv:=hT.cell hoH.out 3 (by omega)
 have hbw:b<w1.heap.size:=hT.blk.lt
 have own:∀o1 o2,((w1.alloc o1).alloc o2).ownsRow B 3 1 sv t.start.length (symCells t.start):=fun o1 o2=>(h.kept ((k1.alloc o1).alloc o2)).start
 have up:∀o1 o2,B≤((w1.alloc o1).alloc o2).heap.size:=fun o1 o2=>(h.kept ((k1.alloc o1).alloc o2)).up
 have mb:t.start.length+1≤maxLen:=by unfold maxLen;omega
 have k1H:Hid (∀o1 o2,Kept [] w ((w1.alloc o1).alloc o2)):=fun o1 o2=>(k1.alloc o1).alloc o2
 have hw1:w.heap.size≤w1.heap.size:=k1.size
 clear hT k1 h1
 go_wp2_with (at_builtin;refine wpList_append_own _ rfl (.tmp 12) (.tmp 14) 41 rfl B 3 i0 _ 1 8 Tryz.underlying41 hi0 hz0 hz1 hz2 rfl (by decide) sv t.start.length (symCells t.start) rfl ?own ⟨w1.heap.size+1,0,none⟩ 1 1 [.int .i64 (s:Int)] rfl rfl ?c1 ?c2 ?b1 ?b2 ?b3 ?k)
 case own=>exact own _ _
 case c1=>exact cells_new _ _ _ _ (by simp)
 case c2=>simp [Value.oneCell']
 case b1=>exact mb
 case b2=>omega
 case b3=>exact up _ _
 case k=>
  intro v' w3 hown hgrow _
  obtain ⟨g,cap,rfl⟩:=own_form hown (by omega)
  have hT1:=h.kept (k1H.out (.cells #[.int .i64 a1,.int .i64 a2,.int .i64 a3,.int .i64 a4] 59) (.cells #[.int .i64 s] 3))
  obtain ⟨e3,f3,b3,hcs,hT2,hF2⟩:=start_fin (x:=s) hT1 hgrow hown hoH.out
  have hA:Blk w3 w1.heap.size #[.int .i64 a1,.int .i64 a2,.int .i64 a3,.int .i64 a4] 59:=
   (hgrow.block _ (by simp;omega) (fun hc=>by have:=(h.start.lt _ hc.symm).2;omega)).trans ((Blk.new w1 _ _).alloc _)
  have hF2H:Hid (Fra B b w _):=(Fra.of_kept (k1H.out _ _) h.up).trans hF2
  have hT2H:Hid (TM _ _ _ _ _ _ _ _ _):=hT2
  have hb3:w1.heap.size<w3.heap.size:=hA.lt
  have d0:w3.cell? ⟨w1.heap.size,0,none⟩=some (.int .i64 a1):=hA.cell 0
  have d1:w3.cell? ⟨w1.heap.size,1,none⟩=some (.int .i64 a2):=hA.cell 1
  have d2:w3.cell? ⟨w1.heap.size,2,none⟩=some (.int .i64 a3):=hA.cell 2
  have d3:w3.cell? ⟨w1.heap.size,3,none⟩=some (.int .i64 a4):=hA.cell 3
  have g4:w3.cell? ⟨b,o+4,none⟩=some (.int .i64 t.whole.len):=hcs 4 (by omega)
  have g5:w3.cell? ⟨b,o+4+1,none⟩=some (.int .i64 t.whole.nl):=hcs 5 (by omega)
  have g6:w3.cell? ⟨b,o+4+2,none⟩=some (.int .i64 t.whole.first):=hcs 6 (by omega)
  have g7:w3.cell? ⟨b,o+4+3,none⟩=some (.int .i64 t.whole.last):=hcs 7 (by omega)
  have hne:b≠w1.heap.size:=by omega
  clear hT1 hgrow hown hcs hA hT2 hF2 own up k1H c3
  go_wp2_with fail
  go_region_law (go_simp;go_at_call 86;refine (hj.out _).mono ?_;rintro _ w5 ⟨rfl,k5⟩;have hT5:=(hT2H.out.kept ((Kept.refl [] _).drew)).kept k5;have r4:w5.cell? ⟨b,o+4,none⟩=some (.int .i64 t.whole.len):=hT5.cell hoH.out 4 (by omega);have r5:w5.cell? ⟨b,o+4+1,none⟩=some (.int .i64 t.whole.nl):=hT5.cell hoH.out 5 (by omega);have r6:w5.cell? ⟨b,o+4+2,none⟩=some (.int .i64 t.whole.first):=hT5.cell hoH.out 6 (by omega);have r7:w5.cell? ⟨b,o+4+3,none⟩=some (.int .i64 t.whole.last):=hT5.cell hoH.out 7 (by omega);have q4:w5.frozen? ⟨b,o+4,none⟩=false:=hT5.blk.frozen _;have q5:w5.frozen? ⟨b,o+4+1,none⟩=false:=hT5.blk.frozen _;have q6:w5.frozen? ⟨b,o+4+2,none⟩=false:=hT5.blk.frozen _;have q7:w5.frozen? ⟨b,o+4+3,none⟩=false:=hT5.blk.frozen _;have q8:=hT5.blk.lt)
  all_goals
   obtain ⟨hT6,hF6⟩:=whole_fin hT5 hsm hoH.out
   have hT7:Hid (TM _ _ _ _ _ _ _ _ _):=hT6
   have hF7:Hid (Fra B b w _):=(hF2H.out.trans ((Fra.of_kept ((Kept.refl [] _).drew.trans k5) hT2H.out.up).trans hF6))
   clear hT6 hF6 hT5
   go_wp2
   go_end0
   exact ⟨rfl,hF7.out,_,hT7.out⟩
end Go.Proofs.YtgifhgnccmnbiabGreat
