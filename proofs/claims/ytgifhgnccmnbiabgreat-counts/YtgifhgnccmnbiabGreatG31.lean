/- The document's answer: what is told of a symbol and of symbols one behind the other, walked. -/
import Derived.Test.YtgifhgnccmnbiabGreatG30
import Derived.Deep.RegionHeld3
import Derived.Laws.IdiomStrings
set_option linter.unusedVariables false
set_option linter.unusedSimpArgs false
set_option maxHeartbeats 4000000
set_option maxRecDepth 100000
namespace Go.Proofs.YtgifhgnccmnbiabGreat
open Go.RowKit Go.IntWalk
def PI.arr (p:PI):Array Value:=#[.int .i64 (p.long:Int),.int .i64 (p.ends:Int),.int .i64 (p.tail:Int),.slice none 0 0,.slice none 0 0,.int .i64 0]
def PI.val (p:PI):Value:=.agg p.arr
def PI.cells (p:PI):List Value:=[.int .i64 (p.long:Int),.int .i64 (p.ends:Int),.int .i64 (p.tail:Int),.slice none 0 0,.slice none 0 0,.int .i64 0]
def piCells (l:List PI):List Value:=l.flatMap PI.cells
structure PIsmall (p:PI):Prop where
 long:p.long≤1099511627777
 ends:p.ends≤1099511627777
 tail:p.tail≤1099511627777
theorem piOf_small (t:List Nat):PIsmall (piOf t):=⟨capL_le _,capL_le _,capL_le _⟩
theorem capS_le (a b:Nat):capS a b≤1099511627777:=by rw [capS_eq];exact capL_le _
theorem joinedP_small {a b:PI} (hb:PIsmall b):PIsmall (joinedP a b):=⟨capS_le _ _,capS_le _ _,by unfold joinedP;simp only [];split;exact capS_le _ _;exact hb.tail⟩
theorem piCells_get:∀(l:List PI) (i j:Nat) (x:PI),l[i]?=some x→j<6→(piCells l)[i*6+j]?=x.cells[j]?
 | [],i,j,x,h,_=>by simp at h
 | y :: l,0,j,x,h,hj=>by
   simp only [List.getElem?_cons_zero,Option.some.injEq] at h
   subst h
   show (y.cells++piCells l)[0*6+j]?=_
   rw [List.getElem?_append_left (by simp [PI.cells];omega)]
   congr 1;omega
 | y :: l,i+1,j,x,h,hj=>by
   rw [List.getElem?_cons_succ] at h
   show (y.cells++piCells l)[(i+1)*6+j]?=_
   rw [List.getElem?_append_right (by simp [PI.cells];omega),show (i+1)*6+j-y.cells.length=i*6+j by simp [PI.cells];omega]
   exact piCells_get l i j x h hj
theorem piCells_snoc (l:List PI) (x:PI):piCells (l++[x])=piCells l++x.cells:=by simp [piCells]
theorem pboth_any (a b:Nat) (ha:a≤1099511627777) (hb:b≤1099511627777) (w:World):Calls Tryz.prog 50 #[.int .i64 (a:Int),.int .i64 (b:Int)] w fun e w'=>e=.returned (.int .i64 (capS a b:Int))∧w'=w:=by
 unfold capS
 by_cases h:(1099511627776:Int)<(a:Int)+(b:Int)
 · rw [if_pos (by omega)]
   go_enter Tryz.func50,Tryz.ntmps50
   go_wp2
   go_ret
   exact ⟨rfl,rfl⟩
 · rw [if_neg (by omega)]
   go_enter Tryz.func50,Tryz.ntmps50
   go_wp2
   go_ret
   exact ⟨ret_int (by omega),rfl⟩
theorem size_piece:(Tryz.prog.info? 92).map (·.size)=some 6:=by kernel_rfl
theorem results_piece {fn:Func} {r:Tmp} (h:fn.results=#[.cell r 92]) (tmps:Array Value) (w:World) (g:Nat) (p:PI)
 (hp:tmps.getD r undef=.pointer (some ⟨g,0,none⟩)) (hg:Blk w g p.arr 92):(results fn tmps).run Tryz.prog w=.ok p.val w:=
 results_cell_row h tmps w g _ _ _ _ hp hg Tryz.underlying92 rfl size_piece
theorem psize_core {w:World} {b g n cap k:Nat} {kv nv rv tv:Value} (hb:Blk w b #[kv,nv,rv,tv,.slice (some ⟨g,0,none⟩) n cap] 44) (hkl:k<n) (hgw:g<w.heap.size) (hl:n≤1000) {p1 p2 p3:Nat} {a4 a5:Option Addr} {m4 k4 m5 k5:Nat} {p6:Int}
 (d0:w.cell? ⟨g,k*6,none⟩=some (.int .i64 (p1:Int))) (d1:w.cell? ⟨g,k*6+1,none⟩=some (.int .i64 (p2:Int))) (d2:w.cell? ⟨g,k*6+2,none⟩=some (.int .i64 (p3:Int)))
 (d3:w.cell? ⟨g,k*6+3,none⟩=some (.slice a4 m4 k4)) (d4:w.cell? ⟨g,k*6+4,none⟩=some (.slice a5 m5 k5)) (d5:w.cell? ⟨g,k*6+5,none⟩=some (.int .i64 p6)):
 Calls Tryz.prog 44 #[.pointer (some ⟨b,0,none⟩),.int .i64 ((k+256:Nat):Int)] w fun e w'=>e=.returned (.agg #[.int .i64 p1,.int .i64 p2,.int .i64 p3,.slice a4 m4 k4,.slice a5 m5 k5,.int .i64 p6])∧Kept [] w w':=by
 have hk:Hid (∀o1,Kept [] w (w.alloc o1)):=fun o1=>(Kept.refl [] w).alloc _
 have e1:(((k+256:Nat):Int)==10)=false:=beq_eq_false_iff_ne.2 (by omega)
 have h2:¬((k+256:Nat):Int)<256:=by omega
 have c4:w.cell? ⟨b,4,none⟩=some (.slice (some ⟨g,0,none⟩) n cap):=hb.cell 4
 have hbw:b<w.heap.size:=hb.lt
 have lt:(k:Int)<(n:Int):=by omega
 clear hb hkl
 go_enter Tryz.func44,Tryz.ntmps44
 go_wp2
 refine bodyPost_ret (v:=.agg #[.int .i64 p1,.int .i64 p2,.int .i64 p3,.slice a4 m4 k4,.slice a5 m5 k5,.int .i64 p6]) (by simp [results,Tryz.results44,go_sem]) rfl ⟨rfl,hk.out _⟩
theorem psize_any {w:World} {b B:Nat} {kv nv rv tv pv:Value} {ps:List PI} (hb:Blk w b #[kv,nv,rv,tv,pv] 44) (hp:w.ownsRow B 92 6 pv ps.length (piCells ps)) (s:Nat) (hs:s<256+ps.length) (hl:ps.length≤1000):
 Calls Tryz.prog 44 #[.pointer (some ⟨b,0,none⟩),.int .i64 (s:Int)] w fun e w'=>e=.returned (sizeP ps s).val∧Kept [] w w':=by
 have hk:Hid (∀o1,Kept [] w (w.alloc o1)):=fun o1=>(Kept.refl [] w).alloc _
 unfold sizeP
 by_cases h1:s=10
 · subst h1
   rw [if_pos rfl]
   unfold PI.val PI.arr
   clear hb hp
   go_enter Tryz.func44,Tryz.ntmps44
   go_wp2
   refine bodyPost_ret (v:=.agg #[.int .i64 1,.int .i64 1,.int .i64 0,.slice none 0 0,.slice none 0 0,.int .i64 0]) (by simp [results,Tryz.results44,go_sem]) rfl ⟨rfl,hk.out _⟩
 · rw [if_neg h1]
   have e1:((s:Int)==10)=false:=beq_eq_false_iff_ne.2 (by omega)
   clear h1
   by_cases h2:(s:Int)<256
   · rw [if_pos (by omega)]
     unfold PI.val PI.arr
     clear hb hp
     go_enter Tryz.func44,Tryz.ntmps44
     go_wp2
     refine bodyPost_ret (v:=.agg #[.int .i64 1,.int .i64 0,.int .i64 1,.slice none 0 0,.slice none 0 0,.int .i64 0]) (by simp [results,Tryz.results44,go_sem]) rfl ⟨rfl,hk.out _⟩
   · rw [if_neg (by omega)]
     obtain ⟨k,rfl⟩:∃k:Nat,s=k+256:=⟨s-256,by omega⟩
     rw [Nat.add_sub_cancel]
     have hkl:k<ps.length:=by omega
     obtain ⟨x,hx⟩:∃x,ps[k]?=some x:=⟨_,List.getElem?_eq_getElem hkl⟩
     rw [show ps.getD k {}=x by rw [List.getD,hx];rfl]
     obtain ⟨g,cap,rfl⟩:=own_form hp (by omega)
     have hgw:g<w.heap.size:=(hp.lt g rfl).2
     have hc:∀j,j<6→w.cell? ⟨g,k*6+j,none⟩=x.cells[j]?:=fun j hj=>by
      obtain ⟨u,hu⟩:∃u,x.cells[j]?=some u:=⟨_,List.getElem?_eq_getElem (by simp [PI.cells];omega)⟩
      have:=hp.cells (g:=g) rfl (k*6+j) u (by rw [piCells_get _ _ _ _ hx hj];exact hu)
      rw [ptr_add] at this
      rw [this,hu]
     obtain ⟨p1,p2,p3⟩:=x
     exact psize_core hb hkl hgw hl (p1:=p1) (p2:=p2) (p3:=p3) (hc 0 (by omega)) (hc 1 (by omega)) (hc 2 (by omega)) (hc 3 (by omega)) (hc 4 (by omega)) (hc 5 (by omega))
def set6W (w:World) (g:Nat) (u0 u1 u2 u3 u4 u5:Value):World:=((((((w.setCell ⟨g,0,none⟩ u0).setCell ⟨g,1,none⟩ u1).setCell ⟨g,2,none⟩ u2).setCell ⟨g,3,none⟩ u3).setCell ⟨g,4,none⟩ u4).setCell ⟨g,5,none⟩ u5)
theorem set6 {w:World} {g:Nat} {E:TypeId} {a0 a1 a2 a3 a4 a5:Value} (h:Blk w g #[a0,a1,a2,a3,a4,a5] E) (u0 u1 u2 u3 u4 u5:Value):Blk (set6W w g u0 u1 u2 u3 u4 u5) g #[u0,u1,u2,u3,u4,u5] E:=
 (((((h.set 0 u0).set 1 u1).set 2 u2).set 3 u3).set 4 u4).set 5 u5
theorem kept6 {w w1:World} (k:Kept [] w w1) {g:Nat} (hg:w.heap.size≤g) (u0 u1 u2 u3 u4 u5:Value):Kept [] w (set6W w1 g u0 u1 u2 u3 u4 u5):=
 (((((k.setCell (Or.inr hg) _).setCell (Or.inr hg) _).setCell (Or.inr hg) _).setCell (Or.inr hg) _).setCell (Or.inr hg) _).setCell (Or.inr hg) _
theorem joined_gen (a b:PI) (ha:PIsmall a) (hb:PIsmall b) (a4 a5 b4 b5:Option Addr) (m4 k4 m5 k5 n4 l4 n5 l5:Nat) (a6 b6:Int) (w:World):Calls Tryz.prog 45 #[.agg #[.int .i64 (a.long:Int),.int .i64 (a.ends:Int),.int .i64 (a.tail:Int),.slice a4 m4 k4,.slice a5 m5 k5,.int .i64 a6],.agg #[.int .i64 (b.long:Int),.int .i64 (b.ends:Int),.int .i64 (b.tail:Int),.slice b4 n4 l4,.slice b5 n5 l5,.int .i64 b6]] w fun e w'=>e=.returned (joinedP a b).val∧Kept [] w w':=by
 obtain ⟨a1,a2,a3⟩:=a
 obtain ⟨b1,b2,b3⟩:=b
 obtain ⟨ha1,ha2,ha3⟩:=ha
 obtain ⟨hb1,hb2,hb3⟩:=hb
 simp only [] at ha1 ha2 ha3 hb1 hb2 hb3
 unfold joinedP PI.val PI.arr
 simp only []
 have g1:Hid (∀w,Calls _ _ _ w _):=fun w=>pboth_any a1 b1 ha1 hb1 w
 have g2:Hid (∀w,Calls _ _ _ w _):=fun w=>pboth_any a2 b2 ha2 hb2 w
 have g3:Hid (∀w,Calls _ _ _ w _):=fun w=>pboth_any a3 b1 ha3 hb1 w
 generalize capS a1 b1=L1 at *
 generalize capS a2 b2=L2 at *
 generalize capS a3 b1=L3 at *
 obtain ⟨T,hT⟩:∃T,T=if b2=0 then L3 else b3:=⟨_,rfl⟩
 rw [←hT]
 have hTH:Hid (T=_):=hT
 clear hT
 go_enter Tryz.func45,Tryz.ntmps45
 go_upto_region 1 with fail
 obtain ⟨W,hW⟩:∃W,W=((w.alloc (.cells #[.int .i64 (a1:Int),.int .i64 (a2:Int),.int .i64 (a3:Int),.slice a4 m4 k4,.slice a5 m5 k5,.int .i64 a6] 92)).alloc (.cells #[.int .i64 (b1:Int),.int .i64 (b2:Int),.int .i64 (b3:Int),.slice b4 n4 l4,.slice b5 n5 l5,.int .i64 b6] 92)).alloc (.cells #[.int .i64 0,.int .i64 0,.int .i64 0,.slice none 0 0,.slice none 0 0,.int .i64 0] 92):=⟨_,rfl⟩
 rw [←hW]
 have hB0:Blk W w.heap.size #[.int .i64 (a1:Int),.int .i64 (a2:Int),.int .i64 (a3:Int),.slice a4 m4 k4,.slice a5 m5 k5,.int .i64 a6] 92:=by rw [hW];exact ((Blk.new w _ _).alloc _).alloc _
 have hB1:Blk W (w.heap.size+1) #[.int .i64 (b1:Int),.int .i64 (b2:Int),.int .i64 (b3:Int),.slice b4 n4 l4,.slice b5 n5 l5,.int .i64 b6] 92:=by
  rw [hW]
  have e:(w.alloc (.cells #[.int .i64 (a1:Int),.int .i64 (a2:Int),.int .i64 (a3:Int),.slice a4 m4 k4,.slice a5 m5 k5,.int .i64 a6] 92)).heap.size=w.heap.size+1:=by simp
  rw [←e]
  exact (Blk.new _ _ _).alloc _
 have hB2:Blk W (w.heap.size+2) #[.int .i64 0,.int .i64 0,.int .i64 0,.slice none 0 0,.slice none 0 0,.int .i64 0] 92:=by
  rw [hW]
  have e:((w.alloc (.cells #[.int .i64 (a1:Int),.int .i64 (a2:Int),.int .i64 (a3:Int),.slice a4 m4 k4,.slice a5 m5 k5,.int .i64 a6] 92)).alloc (.cells #[.int .i64 (b1:Int),.int .i64 (b2:Int),.int .i64 (b3:Int),.slice b4 n4 l4,.slice b5 n5 l5,.int .i64 b6] 92)).heap.size=w.heap.size+2:=by simp
  rw [←e]
  exact Blk.new _ _ _
 have hWk:Hid (Kept [] w W):=by show Kept [] w W;rw [hW];exact (((Kept.refl [] w).alloc _).alloc _).alloc _
 have hB0H:Hid (Blk _ _ _ _):=hB0
 have hB1H:Hid (Blk _ _ _ _):=hB1
 have hB2H:Hid (Blk _ _ _ _):=hB2
 have c1:W.cell? ⟨w.heap.size,0,none⟩=some (.int .i64 (a1:Int)):=hB0.cell 0
 have c2:W.cell? ⟨w.heap.size,1,none⟩=some (.int .i64 (a2:Int)):=hB0.cell 1
 have c3:W.cell? ⟨w.heap.size+1,0,none⟩=some (.int .i64 (b1:Int)):=hB1.cell 0
 have c4:W.cell? ⟨w.heap.size+1,1,none⟩=some (.int .i64 (b2:Int)):=hB1.cell 1
 have c5:W.cell? ⟨w.heap.size+1,2,none⟩=some (.int .i64 (b3:Int)):=hB1.cell 2
 clear hB0 hB1 hB2 hW
 have n1:=World.new_ne W _ c1
 have n3:=World.new_ne W _ c3
 go_cut [5] (fun s5 wx=>s5=.pointer (some ⟨W.heap.size,0,none⟩)∧∃y,y=wx∧Blk y W.heap.size #[.int .i64 (L1:Int),.int .i64 (L2:Int),.int .i64 (b3:Int),.slice none 0 0,.slice none 0 0,.int .i64 0] 92∧Kept [] W y)
 case first=>
  go_region_held3 (fun w'=>w'.cell? ⟨w.heap.size,0,none⟩=some (.int .i64 (a1:Int))∧w'.cell? ⟨w.heap.size,1,none⟩=some (.int .i64 (a2:Int))∧w'.cell? ⟨w.heap.size+1,0,none⟩=some (.int .i64 (b1:Int))∧w'.cell? ⟨w.heap.size+1,1,none⟩=some (.int .i64 (b2:Int))∧w'.cell? ⟨w.heap.size+1,2,none⟩=some (.int .i64 (b3:Int))) (go_keep)
   (first | (go_at_call_of 50 (Value.int IntKind.i64 (a1:Int));refine (g1.out _).mono ?_;rintro _ _ ⟨rfl,rfl⟩) | (go_at_call_of 50 (Value.int IntKind.i64 (a2:Int));refine (g2.out _).mono ?_;rintro _ _ ⟨rfl,rfl⟩))
  all_goals
   go_wp2_with fail
   go_meet
   exact ⟨rfl,_,rfl,Blk.new _ _ _,(Kept.refl _ _).drew.alloc _⟩
 case rest=>
  obtain ⟨rfl,wx,hwx,hBx,hkx⟩:=hcut
  subst hwx
  have hB0:=hB0H.out.kept hkx (by simp)
  have hB1:=hB1H.out.kept hkx (by simp)
  have hB2:=hB2H.out.kept hkx (by simp)
  obtain ⟨N,hN⟩:∃N,N=W.heap.size:=⟨_,rfl⟩
  rw [←hN] at hBx ⊢
  have hNl:w.heap.size+2<N:=by rw [hN];exact hB2H.out.lt
  have hNx:N<wx.heap.size:=hBx.lt
  have m1:N≠w.heap.size+2:=by omega
  have m2:w.heap.size+2≠N:=by omega
  have hkw:Kept [] w wx:=hWk.out.trans hkx
  have x2:wx.cell? ⟨w.heap.size,2,none⟩=some (.int .i64 (a3:Int)):=hB0.cell 2
  have y0:wx.cell? ⟨w.heap.size+1,0,none⟩=some (.int .i64 (b1:Int)):=hB1.cell 0
  have y1:wx.cell? ⟨w.heap.size+1,1,none⟩=some (.int .i64 (b2:Int)):=hB1.cell 1
  have z0:wx.cell? ⟨w.heap.size+2,0,none⟩=some (.int .i64 0):=hB2.cell 0
  have z1:wx.cell? ⟨w.heap.size+2,1,none⟩=some (.int .i64 0):=hB2.cell 1
  have z2:wx.cell? ⟨w.heap.size+2,2,none⟩=some (.int .i64 0):=hB2.cell 2
  have z3:wx.cell? ⟨w.heap.size+2,3,none⟩=some (.slice none 0 0):=hB2.cell 3
  have z4:wx.cell? ⟨w.heap.size+2,4,none⟩=some (.slice none 0 0):=hB2.cell 4
  have z5:wx.cell? ⟨w.heap.size+2,5,none⟩=some (.int .i64 0):=hB2.cell 5
  have f0:wx.frozen? ⟨w.heap.size+2,0,none⟩=false:=hB2.frozen 0
  have f1:wx.frozen? ⟨w.heap.size+2,1,none⟩=false:=hB2.frozen 1
  have f2:wx.frozen? ⟨w.heap.size+2,2,none⟩=false:=hB2.frozen 2
  have f3:wx.frozen? ⟨w.heap.size+2,3,none⟩=false:=hB2.frozen 3
  have f4:wx.frozen? ⟨w.heap.size+2,4,none⟩=false:=hB2.frozen 4
  have f5:wx.frozen? ⟨w.heap.size+2,5,none⟩=false:=hB2.frozen 5
  have x0:wx.cell? ⟨N,0,none⟩=some (.int .i64 (L1:Int)):=hBx.cell 0
  have x1:wx.cell? ⟨N,1,none⟩=some (.int .i64 (L2:Int)):=hBx.cell 1
  have xx2:wx.cell? ⟨N,2,none⟩=some (.int .i64 (b3:Int)):=hBx.cell 2
  have x3:wx.cell? ⟨N,3,none⟩=some (.slice none 0 0):=hBx.cell 3
  have x4:wx.cell? ⟨N,4,none⟩=some (.slice none 0 0):=hBx.cell 4
  have x5:wx.cell? ⟨N,5,none⟩=some (.int .i64 0):=hBx.cell 5
  have xf:wx.frozen? ⟨N,2,none⟩=false:=hBx.frozen 2
  have hw2:w.heap.size+2<wx.heap.size:=hB2.lt
  have hfin:Hid (∀v u0 u1 u2 u3 u4 u5,Blk (set6W (wx.setCell ⟨N,2,none⟩ v) (w.heap.size+2) u0 u1 u2 u3 u4 u5) (w.heap.size+2) #[u0,u1,u2,u3,u4,u5] 92∧Kept [] w (set6W (wx.setCell ⟨N,2,none⟩ v) (w.heap.size+2) u0 u1 u2 u3 u4 u5)):=fun v u0 u1 u2 u3 u4 u5=>
   ⟨set6 (hB2.kept ((Kept.refl [N] wx).setCell (Or.inl (by simp)) v) (by simp;omega)) u0 u1 u2 u3 u4 u5,kept6 (hkw.setCell (Or.inr (by show w.heap.size≤N;omega)) v) (by omega) u0 u1 u2 u3 u4 u5⟩
  have hfin0:Hid (∀u0 u1 u2 u3 u4 u5,Blk (set6W wx (w.heap.size+2) u0 u1 u2 u3 u4 u5) (w.heap.size+2) #[u0,u1,u2,u3,u4,u5] 92∧Kept [] w (set6W wx (w.heap.size+2) u0 u1 u2 u3 u4 u5)):=fun u0 u1 u2 u3 u4 u5=>
   ⟨set6 hB2 u0 u1 u2 u3 u4 u5,kept6 hkw (by omega) u0 u1 u2 u3 u4 u5⟩
  unfold set6W at hfin hfin0
  clear hB0 hB1 hB2 hBx hkx hkw hN hB0H hB1H hB2H hWk c1 c2 c3 c4 c5 n1 n3 g1 g2
  by_cases h:b2=0
  · have e1:((b2:Int)==0)=true:=by rw [h];rfl
    have hT1:T=L3:=hTH.out.trans (if_pos h)
    clear h hTH
    subst hT1
    go_wp2_with fail
    refine (g3.out _).mono ?_
    rintro e w2 ⟨rfl,rfl⟩
    clear g3
    go_wp2
    exact bodyPost_ret (v:=.agg #[(.int .i64 L1),(.int .i64 L2),(.int .i64 T),.slice none 0 0,.slice none 0 0,.int .i64 0]) (results_piece Tryz.results45 _ _ (w.heap.size+2) ⟨L1,L2,T⟩ rfl (hfin.out _ _ _ _ _ _ _).1) rfl ⟨rfl,(hfin.out _ _ _ _ _ _ _).2⟩
  · have e1:((b2:Int)==0)=false:=beq_eq_false_iff_ne.2 (by omega)
    have hT1:T=b3:=hTH.out.trans (if_neg h)
    clear h g3 hTH
    subst hT1
    go_wp2
    exact bodyPost_ret (v:=.agg #[.int .i64 L1,.int .i64 L2,.int .i64 T,.slice none 0 0,.slice none 0 0,.int .i64 0]) (results_piece Tryz.results45 _ _ (w.heap.size+2) ⟨L1,L2,T⟩ rfl (hfin0.out _ _ _ _ _ _).1) rfl ⟨rfl,(hfin0.out _ _ _ _ _ _).2⟩
theorem joined_any (a b:PI) (ha:PIsmall a) (hb:PIsmall b) (w:World):Calls Tryz.prog 45 #[a.val,b.val] w fun e w'=>e=.returned (joinedP a b).val∧Kept [] w w':=joined_gen a b ha hb none none none none 0 0 0 0 0 0 0 0 0 0 w
theorem keptOne6 (w:World) (g:Nat) (u0 u1 u2 u3 u4 u5:Value):Kept [g] w (set6W w g u0 u1 u2 u3 u4 u5):=
 ((((((Kept.refl [g] w).setCell (Or.inl (by simp)) _).setCell (Or.inl (by simp)) _).setCell (Or.inl (by simp)) _).setCell (Or.inl (by simp)) _).setCell (Or.inl (by simp)) _).setCell (Or.inl (by simp)) _
structure GM (w:World) (b B C:Nat) (kind:Int) (n:Nat) (rl top:List Nat) (ps:List PI) (rv tv pv:Value):Prop where
 blk:Blk w b #[.int .i64 kind,.int .i64 (n:Int),rv,tv,pv] 44
 lt:b<B
 up:B≤C
 rules:w.ownsRow B 3 1 rv rl.length (symCells rl)
 low:∀g,rv.ownBlock=some g→g<C
 top:w.ownsRow C 3 1 tv top.length (symCells top)
 pieces:w.ownsRow B 92 6 pv ps.length (piCells ps)
 small:∀x,x∈ps→PIsmall x
theorem GM.kept {w w':World} {b B C:Nat} {kind:Int} {n:Nat} {rl top:List Nat} {ps:List PI} {rv tv pv:Value} (h:GM w b B C kind n rl top ps rv tv pv) (k:Kept [] w w'):GM w' b B C kind n rl top ps rv tv pv:=
 ⟨h.blk.kept k (by simp),h.lt,h.up,row_stay (S:=[]) h.rules k (fun _ _=>by simp),h.low,row_stay (S:=[]) h.top k (fun _ _=>by simp),row_stay (S:=[]) h.pieces k (fun _ _=>by simp),h.small⟩
def wholeR (ps:List PI) (l:List Nat):PI:=l.foldl (fun p s=>joinedP p (sizeP ps s)) {}
theorem wholeR_snoc (ps:List PI) (l:List Nat) (s:Nat):wholeR ps (l++[s])=joinedP (wholeR ps l) (sizeP ps s):=by unfold wholeR;rw [List.foldl_append];rfl
theorem sizeP_small {ps:List PI} (h:∀x,x∈ps→PIsmall x) (s:Nat):PIsmall (sizeP ps s):=by
 unfold sizeP
 split
 · exact ⟨by simp,by simp,by simp⟩
 · split
   · exact ⟨by simp,by simp,by simp⟩
   · rw [List.getD]
     cases hx:ps[s-256]? with
     | none=>exact ⟨by simp,by simp,by simp⟩
     | some x=>exact h x (List.mem_of_getElem? hx)
theorem wholeR_small {ps:List PI} (h:∀x,x∈ps→PIsmall x):∀l:List Nat,PIsmall (wholeR ps l):=fun l=>by
 rcases List.eq_nil_or_concat l with rfl | ⟨l',x,rfl⟩
 · exact ⟨by simp [wholeR],by simp [wholeR],by simp [wholeR]⟩
 · rw [List.concat_eq_append,wholeR_snoc];exact joinedP_small (sizeP_small h x)
theorem symCells_get (l:List Nat) (i:Nat) (hi:i<l.length):(symCells l)[i]?=some (.int .i64 ((l.getD i 0:Nat):Int)):=by simp [symCells,List.getD,hi]
theorem whole_any {w:World} {b B C:Nat} {kind:Int} {n:Nat} {rl top:List Nat} {ps:List PI} {rv tv pv:Value} (h:GM w b B C kind n rl top ps rv tv pv) (hs:∀s,s∈top→s<256+ps.length) (hl:ps.length≤1000) (ht:top.length≤100000000):
 Calls Tryz.prog 46 #[.pointer (some ⟨b,0,none⟩)] w fun e w'=>e=.returned (wholeR ps top).val∧Kept [] w w':=by
 have hH:Hid (GM w b B C kind n rl top ps rv tv pv):=h
 have hsH:Hid (∀s,_):=hs
 obtain ⟨ta,tc,rfl⟩:∃a c,tv=.slice a top.length c:=by
  rcases h.top.2 with ⟨h3,h4⟩ | ⟨g,cap,_,h3,_⟩
  · exact ⟨none,0,by rw [h3,h4]⟩
  · exact ⟨_,cap,h3⟩
 have z0:Hid (Kept [] w ((w.alloc (.cells #[.int .i64 0,.int .i64 0,.int .i64 0,.slice none 0 0,.slice none 0 0,.int .i64 0] 92)).alloc (.cells #[.int .i64 0,.int .i64 0,.int .i64 0,.slice none 0 0,.slice none 0 0,.int .i64 0] 92))):=((Kept.refl [] w).alloc _).alloc _
 have z1:Hid (Blk ((w.alloc (.cells #[.int .i64 0,.int .i64 0,.int .i64 0,.slice none 0 0,.slice none 0 0,.int .i64 0] 92)).alloc (.cells #[.int .i64 0,.int .i64 0,.int .i64 0,.slice none 0 0,.slice none 0 0,.int .i64 0] 92)) w.heap.size #[.int .i64 0,.int .i64 0,.int .i64 0,.slice none 0 0,.slice none 0 0,.int .i64 0] 92):=(Blk.new w _ _).alloc _
 have z2:Hid (Blk ((w.alloc (.cells #[.int .i64 0,.int .i64 0,.int .i64 0,.slice none 0 0,.slice none 0 0,.int .i64 0] 92)).alloc (.cells #[.int .i64 0,.int .i64 0,.int .i64 0,.slice none 0 0,.slice none 0 0,.int .i64 0] 92)) (w.heap.size+1) #[.int .i64 0,.int .i64 0,.int .i64 0,.slice none 0 0,.slice none 0 0,.int .i64 0] 92):=by
  have e:(w.alloc (.cells #[.int .i64 0,.int .i64 0,.int .i64 0,.slice none 0 0,.slice none 0 0,.int .i64 0] 92)).heap.size=w.heap.size+1:=by simp
  have:=Blk.new (w.alloc (.cells #[.int .i64 0,.int .i64 0,.int .i64 0,.slice none 0 0,.slice none 0 0,.int .i64 0] 92)) #[.int .i64 0,.int .i64 0,.int .i64 0,.slice none 0 0,.slice none 0 0,.int .i64 0] 92
  rwa [e] at this
 clear h hs
 go_enter Tryz.func46,Tryz.ntmps46
 go_wp2_with fail
 go_loopw [4,5] (fun iv _ wr=>∃k:Nat,iv=.int .i64 (k:Int)∧k≤top.length∧Kept [] w wr∧Blk wr w.heap.size #[.int .i64 0,.int .i64 0,.int .i64 0,.slice none 0 0,.slice none 0 0,.int .i64 0] 92∧Blk wr (w.heap.size+1) (wholeR ps (top.take k)).arr 92) (fun iv _ _=>((top.length:Int)-intOf iv).toNat)
 case atStart=>exact ⟨0,rfl,Nat.zero_le _,z0.out,z1.out,z2.out⟩
 case round=>
  obtain ⟨k,rfl,hk,hkw,hb0,hb1⟩:=hrel
  have hkwH:Hid (Kept _ _ _):=hkw
  have hGr:GM wr b B C kind n rl top ps rv (.slice ta top.length tc) pv:=hH.out.kept hkw
  have c3:wr.cell? ⟨b,3,none⟩=some (.slice ta top.length tc):=hGr.blk.cell 3
  have hbl:b<wr.heap.size:=hGr.blk.lt
  have hsmW:=wholeR_small hH.out.small (top.take k)
  have hsmWH:Hid (PIsmall _):=hsmW
  have hb0H:Hid (Blk _ _ _ _):=hb0
  have hb1H:Hid (Blk _ _ _ _):=hb1
  have hGrH:Hid (GM wr b B C kind n rl top ps rv (.slice ta top.length tc) pv):=hGr
  by_cases hlt:(k:Int)<(top.length:Int)
  · obtain ⟨tg,cap,he⟩:=own_form hGr.top (by omega)
    cases he
    obtain ⟨s,hsE⟩:∃s,s=top.getD k 0:=⟨_,rfl⟩
    have hcell:wr.cell? ⟨tg,k,none⟩=some (.int .i64 (s:Int)):=by
     have:=hGr.top.cells (g:=tg) rfl k (.int .i64 ((top.getD k 0:Nat):Int)) (symCells_get _ _ (by omega))
     rwa [ptr_add,←hsE] at this
    have hsB:s<256+ps.length:=hsH.out s (by rw [hsE,List.getD,List.getElem?_eq_getElem (by omega)];exact List.getElem_mem _)
    have hnx:Hid (wholeR ps (top.take (k+1))=joinedP (wholeR ps (top.take k)) (sizeP ps s)):=by
     show _=_
     rw [List.take_add_one,show top[k]?=some s by rw [hsE,List.getD,List.getElem?_eq_getElem (by omega)];rfl]
     exact wholeR_snoc _ _ _
    have hsz:Hid (∀w',Kept [] wr w'→Calls _ _ _ w' _):=fun w' k'=>psize_any (hGrH.out.kept k').blk (hGrH.out.kept k').pieces s hsB hl
    have hsS:Hid (PIsmall (sizeP ps s)):=sizeP_small hH.out.small s
    have hjn:Hid (∀w',Calls _ _ _ w' _):=fun w'=>joined_any (wholeR ps (top.take k)) (sizeP ps s) hsmWH.out hsS.out w'
    have hjS:Hid (PIsmall (joinedP (wholeR ps (top.take k)) (sizeP ps s))):=joinedP_small hsS.out
    clear hsE hsB hsmW hkw hb0 hb1 hGr
    generalize joinedP (wholeR ps (top.take k)) (sizeP ps s)=J at *
    generalize wholeR ps (top.take k)=A at *
    generalize sizeP ps s=S at *
    obtain ⟨A1,A2,A3⟩:=A
    obtain ⟨S1,S2,S3⟩:=S
    obtain ⟨J1,J2,J3⟩:=J
    unfold PI.val PI.arr at hjn
    unfold PI.val PI.arr at hsz
    unfold PI.arr at hb1H
    simp only [] at hjn hsz hb1H
    go_wp2_with fail
    refine (hsz.out _ (Kept.refl _ _)).mono ?_
    rintro e w2 ⟨rfl,k2⟩
    have hb0':=hb0H.out.kept k2 (by simp)
    have hb1':=hb1H.out.kept k2 (by simp)
    have d0:w2.cell? ⟨w.heap.size+1,0,none⟩=some (.int .i64 (A1:Int)):=hb1'.cell 0
    have d1:w2.cell? ⟨w.heap.size+1,1,none⟩=some (.int .i64 (A2:Int)):=hb1'.cell 1
    have d2:w2.cell? ⟨w.heap.size+1,2,none⟩=some (.int .i64 (A3:Int)):=hb1'.cell 2
    have d3:w2.cell? ⟨w.heap.size+1,3,none⟩=some (.slice none 0 0):=hb1'.cell 3
    have d4:w2.cell? ⟨w.heap.size+1,4,none⟩=some (.slice none 0 0):=hb1'.cell 4
    have d5:w2.cell? ⟨w.heap.size+1,5,none⟩=some (.int .i64 0):=hb1'.cell 5
    have hlt2:w.heap.size+1<w2.heap.size:=hb1'.lt
    have k2H:Hid (Kept _ _ _):=hkwH.out.trans k2
    have hb0'H:Hid (Blk _ _ _ _):=hb0'
    have hb1'H:Hid (Blk _ _ _ _):=hb1'
    clear hb0' hb1' k2 hsz hb0H hb1H hkwH c3 hcell hGrH
    go_wp2_with fail
    refine (hjn.out _).mono ?_
    rintro e w3 ⟨rfl,k3⟩
    have k23:Kept [] w2 w3:=((Kept.refl [] w2).alloc _).trans k3
    have hb0:=hb0'H.out.kept k23 (by simp)
    have hb1:=hb1'H.out.kept k23 (by simp)
    have f0:w3.frozen? ⟨w.heap.size+1,0,none⟩=false:=hb1.frozen 0
    have f1:w3.frozen? ⟨w.heap.size+1,1,none⟩=false:=hb1.frozen 1
    have f2:w3.frozen? ⟨w.heap.size+1,2,none⟩=false:=hb1.frozen 2
    have f3:w3.frozen? ⟨w.heap.size+1,3,none⟩=false:=hb1.frozen 3
    have f4:w3.frozen? ⟨w.heap.size+1,4,none⟩=false:=hb1.frozen 4
    have f5:w3.frozen? ⟨w.heap.size+1,5,none⟩=false:=hb1.frozen 5
    have e0:w3.cell? ⟨w.heap.size+1,0,none⟩=some (.int .i64 (A1:Int)):=hb1.cell 0
    have e1:w3.cell? ⟨w.heap.size+1,1,none⟩=some (.int .i64 (A2:Int)):=hb1.cell 1
    have e2:w3.cell? ⟨w.heap.size+1,2,none⟩=some (.int .i64 (A3:Int)):=hb1.cell 2
    have e3:w3.cell? ⟨w.heap.size+1,3,none⟩=some (.slice none 0 0):=hb1.cell 3
    have e4:w3.cell? ⟨w.heap.size+1,4,none⟩=some (.slice none 0 0):=hb1.cell 4
    have e5:w3.cell? ⟨w.heap.size+1,5,none⟩=some (.int .i64 0):=hb1.cell 5
    have hlt3:w.heap.size+1<w3.heap.size:=hb1.lt
    have hfin:Hid (∀u0 u1 u2 u3 u4 u5,Kept [] w (set6W w3 (w.heap.size+1) u0 u1 u2 u3 u4 u5)∧Blk (set6W w3 (w.heap.size+1) u0 u1 u2 u3 u4 u5) w.heap.size #[.int .i64 0,.int .i64 0,.int .i64 0,.slice none 0 0,.slice none 0 0,.int .i64 0] 92∧Blk (set6W w3 (w.heap.size+1) u0 u1 u2 u3 u4 u5) (w.heap.size+1) #[u0,u1,u2,u3,u4,u5] 92):=fun u0 u1 u2 u3 u4 u5=>
     ⟨kept6 (k2H.out.trans k23) (by omega) _ _ _ _ _ _,hb0.kept (keptOne6 w3 (w.heap.size+1) u0 u1 u2 u3 u4 u5) (by simp),set6 hb1 u0 u1 u2 u3 u4 u5⟩
    unfold set6W at hfin
    clear hb0 hb1 k23 k3 hb0'H hb1'H k2H d0 d1 d2 d3 d4 d5
    go_wp2
    refine ⟨⟨k+1,by go_num,by omega,(hfin.out _ _ _ _ _ _).1,(hfin.out _ _ _ _ _ _).2.1,by rw [hnx.out];exact (hfin.out _ _ _ _ _ _).2.2⟩,?_⟩
    simp only [intOf];omega
  · have hke:k=top.length:=by omega
    have hWe:Hid (wholeR ps (top.take k)=wholeR ps top):=by show _=_;rw [hke,List.take_length]
    rw [hWe.out] at hb1H hsmW hsmWH hb1
    clear hke hWe hb1H hsmW hsmWH
    obtain ⟨A,hA⟩:∃A,A=wholeR ps top:=⟨_,rfl⟩
    rw [←hA] at hb1
    have hAH:Hid (A=_):=hA
    clear hA
    obtain ⟨A1,A2,A3⟩:=A
    unfold PI.arr at hb1
    simp only [] at hb1
    have d0:wr.cell? ⟨w.heap.size+1,0,none⟩=some (.int .i64 (A1:Int)):=hb1.cell 0
    have d1:wr.cell? ⟨w.heap.size+1,1,none⟩=some (.int .i64 (A2:Int)):=hb1.cell 1
    have d2:wr.cell? ⟨w.heap.size+1,2,none⟩=some (.int .i64 (A3:Int)):=hb1.cell 2
    have d3:wr.cell? ⟨w.heap.size+1,3,none⟩=some (.slice none 0 0):=hb1.cell 3
    have d4:wr.cell? ⟨w.heap.size+1,4,none⟩=some (.slice none 0 0):=hb1.cell 4
    have d5:wr.cell? ⟨w.heap.size+1,5,none⟩=some (.int .i64 0):=hb1.cell 5
    have e0:wr.cell? ⟨w.heap.size,0,none⟩=some (.int .i64 0):=hb0.cell 0
    have e1:wr.cell? ⟨w.heap.size,1,none⟩=some (.int .i64 0):=hb0.cell 1
    have e2:wr.cell? ⟨w.heap.size,2,none⟩=some (.int .i64 0):=hb0.cell 2
    have e3:wr.cell? ⟨w.heap.size,3,none⟩=some (.slice none 0 0):=hb0.cell 3
    have e4:wr.cell? ⟨w.heap.size,4,none⟩=some (.slice none 0 0):=hb0.cell 4
    have e5:wr.cell? ⟨w.heap.size,5,none⟩=some (.int .i64 0):=hb0.cell 5
    have f0:wr.frozen? ⟨w.heap.size,0,none⟩=false:=hb0.frozen 0
    have f1:wr.frozen? ⟨w.heap.size,1,none⟩=false:=hb0.frozen 1
    have f2:wr.frozen? ⟨w.heap.size,2,none⟩=false:=hb0.frozen 2
    have f3:wr.frozen? ⟨w.heap.size,3,none⟩=false:=hb0.frozen 3
    have f4:wr.frozen? ⟨w.heap.size,4,none⟩=false:=hb0.frozen 4
    have f5:wr.frozen? ⟨w.heap.size,5,none⟩=false:=hb0.frozen 5
    have hl0:w.heap.size+1<wr.heap.size:=hb1.lt
    have hfin:Hid (∀u0 u1 u2 u3 u4 u5,Blk (set6W wr w.heap.size u0 u1 u2 u3 u4 u5) w.heap.size #[u0,u1,u2,u3,u4,u5] 92∧Kept [] w (set6W wr w.heap.size u0 u1 u2 u3 u4 u5)):=fun u0 u1 u2 u3 u4 u5=>
     ⟨set6 hb0 u0 u1 u2 u3 u4 u5,kept6 hkw (Nat.le_refl _) _ _ _ _ _ _⟩
    unfold set6W at hfin
    clear hb0 hb1 hkw hb0H hGr hGrH hkwH z0 z1 z2
    go_wp2
    exact bodyPost_ret (v:=.agg #[.int .i64 A1,.int .i64 A2,.int .i64 A3,.slice none 0 0,.slice none 0 0,.int .i64 0]) (results_piece Tryz.results46 _ _ w.heap.size ⟨A1,A2,A3⟩ rfl (hfin.out _ _ _ _ _ _).1) rfl ⟨by rw [←hAH.out];rfl,(hfin.out _ _ _ _ _ _).2⟩
theorem bt_sfx (f:ByteArray) (h:3≤f.size) (i:Nat):bt (f.extract 3 f.size) i=bt f (3+i):=by
 unfold bt
 by_cases hi:3+i<f.size
 · rw [dif_pos (by simp;omega),dif_pos hi]
   congr 1
   show (f.extract 3 f.size).data[i]'_=f.data[3+i]'_
   simp
 · rw [dif_neg (by simp;omega),dif_neg hi]
theorem rbit_any (f:ByteArray) (hf:f.size≤100000) (p:Nat) (hp:3+p / 8<f.size) (w:World):
 Calls Tryz.prog 77 #[.string f,.int .i64 (p:Int)] w fun e w'=>e=.returned (.int .i64 (bitP (f.extract 3 f.size) p:Int))∧w'=w:=by
 obtain ⟨q,hq⟩:∃q,q=p / 8:=⟨_,rfl⟩
 rw [←hq] at hp
 have hqH:Hid (q=p / 8):=hq
 have e:Hid ((bitP (f.extract 3 f.size) p:Int)=(f[3+q].toNat / 2 ^ (p % 8) % 2:Nat)):=by
  show (_:Int)=_
  unfold bitP
  rw [bt_sfx f (by omega),←hq,bt_lt hp]
 have ediv:(p:Int).tdiv 8=(q:Int):=by rw [hq];exact Int.ofNat_tdiv p 8 |>.symm
 have emod:(p:Int).tmod 8=((p % 8:Nat):Int):=(Int.ofNat_tmod p 8).symm
 have g1:(3:Int)+(q:Int)<(f.size:Int):=by omega
 have g2:(0:Int)≤3+(q:Int):=by omega
 have q2:q≤1000000:=by omega
 have hpb:p≤10000000:=by omega
 have hb:=f[3+q].toNat_lt
 have e1:IntKind.i64.wrap (f[3+q].toNat:Int)=(f[3+q].toNat:Int):=by rw [IntKind.wrap_i64];omega
 clear hq
 go_enter Tryz.func77,Tryz.ntmps77
 go_wp2
 go_ret
 refine ⟨ret_int ?_,rfl⟩
 rw [e.out]
 have hle:f[3+q].toNat / 2 ^ (p % 8)≤f[3+q].toNat:=Nat.div_le_self _ _
 have:=and_one (f[3+q].toNat / 2 ^ (p % 8)) (by omega)
 rw [←this]
 congr 1
theorem rwide_any (f m:Nat) (hf:f≤1000000) (hm9:9≤m) (hm:m≤12) (w:World):
 Calls Tryz.prog 76 #[.int .i64 (f:Int),.int .i64 (m:Int)] w fun e w'=>e=.returned (.int .i64 (widP f m:Int))∧w'=w:=by
 go_enter Tryz.func76,Tryz.ntmps76
 go_wp2_with fail
 go_loop [5] (fun iv=>∃q:Nat,iv=.int .i64 (q:Int)∧9≤q∧q≤m∧∀j,9≤j→j<q→2 ^ j≤f) (fun iv=>((m:Int)-intOf iv).toNat)
 case atStart=>exact ⟨9,rfl,Nat.le_refl _,hm9,fun j h1 h2=>by omega⟩
 case round=>
  obtain ⟨q,rfl,h9,hqm,hall⟩:=hrel
  have hallH:Hid (∀j,_):=hall
  clear hall
  by_cases hlt:(q:Int)<(m:Int)
  · have hq:q=9∨q=10∨q=11:=by omega
    by_cases hfq:2 ^ q≤f
    · have hn:Hid (∀j,9≤j→j<q+1→2 ^ j≤f):=fun j h1 h2=>by
       by_cases hj:j=q
       · subst hj;exact hfq
       · exact hallH.out j h1 (by omega)
      clear hallH
      have hq12:Hid (q+1≤m):=by show q+1≤m;omega
      rcases hq with rfl | rfl | rfl <;>
      · simp only [Nat.reducePow] at hfq
        have hz:¬(f:Int)<_:=Int.not_lt.2 (Int.ofNat_le.2 hfq)
        go_wp2
        refine ⟨⟨_,rfl,by decide,hq12.out,hn.out⟩,?_⟩
        simp only [intOf];omega
    · have hw:Hid (widP f m=q):=by
       have a9:=hallH.out 9 (by omega)
       have a10:=hallH.out 10 (by omega)
       show widP f m=q
       unfold widP
       rcases hq with rfl | rfl | rfl
       · rw [if_pos (by simp at hfq;omega)]
       · have:=a9 (by omega)
         simp at hfq this
         rw [if_neg (by omega),if_pos (by omega)]
       · have t1:=a9 (by omega)
         have t2:=a10 (by omega)
         simp at hfq t1 t2
         rw [if_neg (by omega),if_neg (by omega),if_pos (by omega)]
      clear hallH
      rcases hq with rfl | rfl | rfl <;>
      · simp only [Nat.reducePow] at hfq
        have hz:(f:Int)<_:=Int.ofNat_lt.2 (Nat.lt_of_not_le hfq)
        go_wp2
        go_ret
        exact ⟨ret_int (by rw [hw.out];rfl),rfl⟩
  · have hw:Hid (widP f m=m):=by
     have hqe:q=m:=by omega
     have a9:=hallH.out 9 (by omega)
     have a10:=hallH.out 10 (by omega)
     have a11:=hallH.out 11 (by omega)
     show widP f m=m
     have hq:m=9∨m=10∨m=11∨m=12:=by omega
     rw [hqe] at a9 a10 a11
     unfold widP
     rcases hq with rfl | rfl | rfl | rfl
     · rw [if_pos (by omega)]
     · have:=a9 (by omega)
       simp at this
       rw [if_neg (by omega),if_pos (by omega)]
     · have t1:=a9 (by omega)
       have t2:=a10 (by omega)
       simp at t1 t2
       rw [if_neg (by omega),if_neg (by omega),if_pos (by omega)]
     · have t1:=a9 (by omega)
       have t2:=a10 (by omega)
       have t3:=a11 (by omega)
       simp at t1 t2 t3
       rw [if_neg (by omega),if_neg (by omega),if_neg (by omega)]
    clear hallH
    go_wp2
    go_ret
    exact ⟨ret_int (by rw [hw.out]),rfl⟩
def entB (tab:List ByteArray) (c:Nat):ByteArray:=if c<256 then ⟨#[c.toUInt8]⟩ else tab.getD (c-257) ByteArray.empty
def strRow (l:List ByteArray):List Value:=l.map Value.string
theorem entry_any (tab:List ByteArray) (v:Value) (Bd:Nat) (c:Nat) (hc:c<256∨(257≤c∧c-257<tab.length)) (ht:tab.length≤10000) (w:World) (hown:w.ownsRow Bd 9 1 v tab.length (strRow tab)):
 Calls Tryz.prog 78 #[v,.int .i64 (c:Int)] w fun e w'=>e=.returned (.string (entB tab c))∧Kept [] w w':=by
 by_cases h:(c:Int)<256
 · obtain ⟨a,k,cap,rfl⟩:=own_shape hown
   have e:Hid (entB tab c=⟨#[c.toUInt8]⟩):=if_pos (by omega)
   have hk:Hid (∀o,Kept [] w (w.alloc o)):=fun o=>(Kept.refl [] w).alloc o
   have hc8:(c.toUInt8.toNat:Int)=(c:Int):=by rw [Nat.toUInt8_eq,UInt8.toNat_ofNat'];omega
   have hconv:(convert 128 9 (.slice (some ⟨w.heap.size,0,none⟩) 1 1)).run Tryz.prog (w.alloc (.cells #[.int .u8 (c:Int)] 5))=.ok (.string ⟨#[c.toUInt8]⟩) (w.alloc (.cells #[.int .u8 (c:Int)] 5)):=by
    refine run_convert_bytes_back (P:=Tryz.prog) (w.alloc (.cells #[.int .u8 (c:Int)] 5)) 128 9 5 ⟨w.heap.size,0,none⟩ 1 [c.toUInt8] Tryz.underlying128 Tryz.underlying5 Tryz.underlying9 (fun j hj=>?_)
    have hj0:j=0:=by simp at hj;omega
    subst hj0
    rw [ptr_add,(Blk.new w #[.int .u8 (c:Int)] 5).cell]
    show some (Value.int .u8 (c:Int))=some (.int .u8 (c.toUInt8.toNat:Int))
    rw [hc8]
   clear hown hc8
   go_enter Tryz.func78,Tryz.ntmps78
   go_wp2
   go_ret
   exact ⟨by rw [e.out];rfl,hk.out _⟩
 · obtain ⟨d,rfl⟩:∃d,c=d+257:=⟨c-257,by omega⟩
   have hd:d<tab.length:=by omega
   obtain ⟨g,cap,rfl⟩:=own_form hown (by omega)
   have hcell:w.cell? ⟨g,d,none⟩=some (.string (tab.getD d ByteArray.empty)):=by
    have:=hown.cells (g:=g) rfl d (.string (tab.getD d ByteArray.empty)) (by simp [strRow,List.getD,hd])
    rwa [ptr_add] at this
   have e:Hid (entB tab (d+257)=tab.getD d ByteArray.empty):=by
    show entB _ _=_
    unfold entB;rw [if_neg (by omega),Nat.add_sub_cancel]
   have lt:(d:Int)<(tab.length:Int):=by omega
   generalize tab.length=n at *
   generalize tab.getD d ByteArray.empty=s at *
   clear hown h hc
   go_enter Tryz.func78,Tryz.ntmps78
   go_wp2
   go_ret
   exact ⟨by rw [e.out];rfl,Kept.refl _ _⟩
end Go.Proofs.YtgifhgnccmnbiabGreat
