/- Package search: a piece in memory; how many selected lines end in it; a byte's piece: walked. -/
import Derived.Test.YtgifhgnccmnbiabGreatG34
import Derived.BigRegion
set_option linter.unusedVariables false
set_option linter.unusedSimpArgs false
set_option maxHeartbeats 4000000
set_option maxRecDepth 100000
namespace Go.Proofs.YtgifhgnccmnbiabGreat
open Go.RowKit Go.IntWalk
def pcCells (p:PCE) (a:Option Addr):Array Value:=#[.int .i64 (p.len:Int),.int .i64 (p.nl:Int),.pointer a,UV p.tk,.int .i64 (p.inside:Int),UV p.en,UV p.la,.int .i64 (p.tail:Int)]
def PTab (w:World) (p:PCE) (a:Option Addr):Prop:=p.nl=0→∃G O,a=some ⟨G,O,none⟩∧TabAt w G O (tabM p.nx)∧G<w.heap.size
structure PBd (p:PCE):Prop where
 len:p.len≤1099511627776
 nl:p.nl≤1099511627776
 inside:p.inside≤1099511627776
 tail:p.tail≤1099511627776
structure PAt (w:World) (g o:Nat) (p:PCE) (a:Option Addr):Prop where
 cell:∀j,j<8→w.cell? ⟨g,o+j,none⟩=(pcCells p a)[j]?
 tab:PTab w p a
 bd:PBd p
 lt:g<w.heap.size
theorem PTab.kept {w w':World} {p:PCE} {a:Option Addr} (h:PTab w p a) (k:Kept [] w w'):PTab w' p a:=fun hn=>by
 obtain ⟨G,O,e,h1,h2⟩:=h hn
 exact ⟨G,O,e,h1.kept k h2,Nat.lt_of_lt_of_le h2 k.size⟩
section
variable {w w':World} {g o:Nat} {p:PCE} {a:Option Addr} (h:PAt w g o p a)
include h
theorem PAt.kept (k:Kept [] w w'):PAt w' g o p a:=⟨fun j hj=>by rw [k.cell h.lt];exact h.cell j hj,h.tab.kept k,h.bd,Nat.lt_of_lt_of_le h.lt k.size⟩
theorem PAt.c0:w.cell? ⟨g,o,none⟩=some (.int .i64 (p.len:Int)):=h.cell 0 (by omega)
theorem PAt.c1:w.cell? ⟨g,o+1,none⟩=some (.int .i64 (p.nl:Int)):=h.cell 1 (by omega)
theorem PAt.c2:w.cell? ⟨g,o+2,none⟩=some (.pointer a):=h.cell 2 (by omega)
theorem PAt.c3:w.cell? ⟨g,o+3,none⟩=some (UV p.tk):=h.cell 3 (by omega)
theorem PAt.c4:w.cell? ⟨g,o+4,none⟩=some (.int .i64 (p.inside:Int)):=h.cell 4 (by omega)
theorem PAt.c5:w.cell? ⟨g,o+5,none⟩=some (UV p.en):=h.cell 5 (by omega)
theorem PAt.c6:w.cell? ⟨g,o+6,none⟩=some (UV p.la):=h.cell 6 (by omega)
theorem PAt.c7:w.cell? ⟨g,o+7,none⟩=some (.int .i64 (p.tail:Int)):=h.cell 7 (by omega)
end
theorem endsP_le (inv:Bool) (p:PCE) (S:B64):endsP inv p S≤p.inside+1:=by
 unfold endsP
 split
 · omega
 · split <;> omega
def seCells (bt:Nat) (beg:B64) (inv:Bool) (mx:Int) (pv:Value):Array Value:=#[.pointer (some ⟨bt,0,none⟩),UV beg,.bool inv,.int .i64 mx,pv]
theorem countEnds_any {w:World} {gs:Nat} {inv:Bool} {g o:Nat} {p:PCE} {a:Option Addr} (S:B64) (hs:w.cell? ⟨gs,2,none⟩=some (.bool inv)) (hp:PAt w g o p a):
 Calls Tryz.prog 17 #[.pointer (some ⟨gs,0,none⟩),.pointer (some ⟨g,o,none⟩),.int .u64 (S.toNat:Int)] w fun e w'=>e=.returned (.int .i64 (endsP inv p S:Int))∧w'=w:=by
 have d1:=hp.c1
 have d4:=hp.c4
 have d5:=hp.c5
 have hb:=hp.bd.inside
 have hg:=hp.lt
 clear hp
 by_cases hn:p.nl=0
 · have e:Hid (endsP inv p S=0):=if_pos hn
   rw [hn] at d1
   clear hn
   go_enter Tryz.func17,Tryz.ntmps17
   go_wp2
   go_ret
   exact ⟨by rw [e.out];rfl,rfl⟩
 · have hni:((p.nl:Nat):Int)≠0:=by omega
   have hand:=and_u S p.en
   have h1:Hid ((!decide (S&&&p.en=0#64) != inv)=true→endsP inv p S=p.inside+1):=fun h=>by unfold endsP;rw [if_neg hn,if_pos h]
   have h2:Hid (¬(!decide (S&&&p.en=0#64) != inv)=true→endsP inv p S=p.inside):=fun h=>by unfold endsP;rw [if_neg hn,if_neg h]
   clear hn
   generalize p.nl=NL at *
   generalize S&&&p.en=X at *
   by_cases hx:X=0#64
   · have hx0:(X.toNat:Int)=0:=(u_zero _).2 hx
     rw [decide_eq_true hx] at h1 h2
     clear hx
     cases inv with
     | false=>
       have e:Hid (endsP false p S=p.inside):=h2.out (by decide)
       clear h1 h2
       go_enter Tryz.func17,Tryz.ntmps17
       go_wp2
       go_ret
       exact ⟨by rw [e.out];rfl,rfl⟩
     | true=>
       have e:Hid (endsP true p S=p.inside+1):=h1.out (by decide)
       clear h1 h2
       go_enter Tryz.func17,Tryz.ntmps17
       go_wp2
       go_ret
       exact ⟨by rw [e.out];rfl,rfl⟩
   · have hx0:(X.toNat:Int)≠0:=fun hc=>hx ((u_zero _).1 hc)
     rw [decide_eq_false hx] at h1 h2
     have hb1:((X.toNat:Int) != 0)=true:=bne_iff_ne.2 hx0
     have hb2:(!((X.toNat:Int) != 0))=false:=by rw [hb1];rfl
     clear hx
     cases inv with
     | false=>
       have e:Hid (endsP false p S=p.inside+1):=h1.out (by decide)
       clear h1 h2
       go_enter Tryz.func17,Tryz.ntmps17
       go_wp2
       go_ret
       exact ⟨by rw [e.out];rfl,rfl⟩
     | true=>
       have e:Hid (endsP true p S=p.inside):=h2.out (by decide)
       clear h1 h2
       go_enter Tryz.func17,Tryz.ntmps17
       go_wp2
       go_ret
       exact ⟨by rw [e.out];rfl,rfl⟩
theorem res8 {w:World} {g:Nat} {c0 c1 c2 c3 c4 c5 c6 c7:Value} {t:TypeId} (h:Blk w g #[c0,c1,c2,c3,c4,c5,c6,c7] t) (v0 v1 v2 v3 v4 v5 v6 v7:Value):
 Blk ((((((((w.setCell ⟨g,0,none⟩ v0).setCell ⟨g,1,none⟩ v1).setCell ⟨g,2,none⟩ v2).setCell ⟨g,3,none⟩ v3).setCell ⟨g,4,none⟩ v4).setCell ⟨g,5,none⟩ v5).setCell ⟨g,6,none⟩ v6).setCell ⟨g,7,none⟩ v7) g #[v0,v1,v2,v3,v4,v5,v6,v7] t:=by
 have h0:Blk _ g #[v0,c1,c2,c3,c4,c5,c6,c7] t:=h.set 0 v0
 have h1:Blk _ g #[v0,v1,c2,c3,c4,c5,c6,c7] t:=h0.set 1 v1
 have h2:Blk _ g #[v0,v1,v2,c3,c4,c5,c6,c7] t:=h1.set 2 v2
 have h3:Blk _ g #[v0,v1,v2,v3,c4,c5,c6,c7] t:=h2.set 3 v3
 have h4:Blk _ g #[v0,v1,v2,v3,v4,c5,c6,c7] t:=h3.set 4 v4
 have h5:Blk _ g #[v0,v1,v2,v3,v4,v5,c6,c7] t:=h4.set 5 v5
 have h6:Blk _ g #[v0,v1,v2,v3,v4,v5,v6,c7] t:=h5.set 6 v6
 have h7:Blk _ g #[v0,v1,v2,v3,v4,v5,v6,v7] t:=h6.set 7 v7
 exact h7
theorem keptP8 {w x:World} {g:Nat} (h:Kept [] w x) (hg:w.heap.size≤g) (v0 v1 v2 v3 v4 v5 v6 v7:Value):
 Kept [] w ((((((((x.setCell ⟨g,0,none⟩ v0).setCell ⟨g,1,none⟩ v1).setCell ⟨g,2,none⟩ v2).setCell ⟨g,3,none⟩ v3).setCell ⟨g,4,none⟩ v4).setCell ⟨g,5,none⟩ v5).setCell ⟨g,6,none⟩ v6).setCell ⟨g,7,none⟩ v7):=
 (((((((h.setCell (Or.inr (by simpa using hg)) _).setCell (Or.inr (by simpa using hg)) _).setCell (Or.inr (by simpa using hg)) _).setCell (Or.inr (by simpa using hg)) _).setCell (Or.inr (by simpa using hg)) _).setCell (Or.inr (by simpa using hg)) _).setCell (Or.inr (by simpa using hg)) _).setCell (Or.inr (by simpa using hg)) _
structure POut (w w':World) (L:List Nat) (p:PCE) (e:Ending):Prop where
 k:Kept [] w w'
 ex:∃a,e=.returned (.agg (pcCells p a))∧PTab w' p a∧∀A,a=some A→A.block∈L∨w.heap.size≤A.block
theorem byte_any {w:World} {gm:Nat} {M:MP} (hM:MIn w gm M) (c:Nat) (hc:c<256):
 Calls Tryz.prog 36 #[.int .i64 (c:Int),.pointer (some ⟨gm,0,none⟩)] w fun e w'=>POut w w' [gm] (bytePC M c) e:=by
 have hg:gm<w.heap.size:=Blk.lt hM
 by_cases h10:(c:Int)=10
 · have e:bytePC M c={ len:=1,nl:=1,en:=M.en,la:=M.beg }:=by unfold bytePC;rw [if_pos (by omega)]
   rw [e]
   have d0:=hM.beg
   have d1:=hM.en
   have hfin:Hid (∀w',Kept [] w w'→POut w w' [gm] { len:=1,nl:=1,en:=M.en,la:=M.beg } (.returned (.agg #[.int .i64 1,.int .i64 1,.pointer none,.int .u64 0,.int .i64 0,UV M.en,UV M.beg,.int .i64 0]))):=fun w' k=>⟨k,none,rfl,(fun h=>by cases h),fun A h=>by cases h⟩
   clear hM e
   generalize M.en=EN at *
   generalize M.beg=BG at *
   go_enter Tryz.func36,Tryz.ntmps36
   go_wp2_with fail
   go_region
   all_goals
    go_wp2
    refine bodyPost_ret (v:=.agg #[.int .i64 1,.int .i64 1,.pointer none,.int .u64 0,.int .i64 0,UV EN,UV BG,.int .i64 0]) (by simp [results,Tryz.results36,go_sem]) rfl (hfin.out _ (((Kept.refl [] w).alloc _).drew))
 · have e:bytePC M c={ len:=1,nx:=M.next,tk:=M.takes c }:=by unfold bytePC;rw [if_neg (by omega)]
   rw [e]
   have hw:Hid (∀w',Kept [] w w'→Calls Tryz.prog 70 #[.pointer (some ⟨gm,0,none⟩),.int .u8 (c:Int)] w' fun e w2=>e=.returned (WV gm 2 (M.takes c))∧Kept [] w' w2):=fun w' k=>way_any M gm c hc w' (Blk.kept hM k (by simp))
   have hT:=hM.tab
   have hfin:Hid (∀w',Kept [] w w'→POut w w' [gm] { len:=1,nx:=M.next,tk:=M.takes c } (.returned (.agg #[.int .i64 1,.int .i64 0,.pointer (some ⟨gm,2,none⟩),UV (M.takes c),.int .i64 0,.int .u64 0,.int .u64 0,.int .i64 0]))):=fun w' k=>⟨k,_,rfl,fun _=>⟨gm,2,rfl,hT.kept k hg,Nat.lt_of_lt_of_le hg k.size⟩,fun A h=>by simp only [Option.some.injEq] at h;subst h;exact Or.inl (by simp)⟩
   have hw8:IntKind.wrap .u8 (c:Int)=(c:Int):=by rw [IntKind.wrap_u8];omega
   have hb:Hid (Blk (w.alloc (.cells #[.int .i64 0,.int .i64 0,.pointer none,.int .u64 0,.int .i64 0,.int .u64 0,.int .u64 0,.int .i64 0] 119)) w.heap.size #[.int .i64 0,.int .i64 0,.pointer none,.int .u64 0,.int .i64 0,.int .u64 0,.int .u64 0,.int .i64 0] 119):=Blk.new w _ _
   have hk0:Hid (∀o,Kept [] w (w.alloc o)):=fun o=>(Kept.refl [] w).alloc o
   clear hM e hT
   generalize M.takes c=TK at *
   go_enter Tryz.func36,Tryz.ntmps36
   go_wp2_with (go_at_call 70;refine (hw.out _ (hk0.out _)).mono ?_;rintro _ w2 ⟨rfl,k2⟩;have B2:=hb.out.kept k2 (by simp);have hl2:=B2.lt;have g0:=B2.cell 0;have g1:=B2.cell 1;have g2:=B2.cell 2;have g3:=B2.cell 3;have g4:=B2.cell 4;have g5:=B2.cell 5;have g6:=B2.cell 6;have g7:=B2.cell 7;have f0:=B2.frozen 0;have f1:=B2.frozen 1;have f2:=B2.frozen 2;have f3:=B2.frozen 3;have f4:=B2.frozen 4;have f5:=B2.frozen 5;have f6:=B2.frozen 6;have f7:=B2.frozen 7)
   have B8:=(res8 B2 (.int .i64 1) (.int .i64 0) (.pointer (some ⟨gm,2,none⟩)) (UV TK) (.int .i64 0) (.int .u64 0) (.int .u64 0) (.int .i64 0)).alloc (.cells #[.pointer (some ⟨gm,2,none⟩),UV TK] 117)
   have x0:=B8.cell 0
   have x1:=B8.cell 1
   have x2:=B8.cell 2
   have x3:=B8.cell 3
   have x4:=B8.cell 4
   have x5:=B8.cell 5
   have x6:=B8.cell 6
   have x7:=B8.cell 7
   refine bodyPost_ret (v:=.agg #[.int .i64 1,.int .i64 0,.pointer (some ⟨gm,2,none⟩),UV TK,.int .i64 0,.int .u64 0,.int .u64 0,.int .i64 0]) (by simp [results,Tryz.results36,go_sem,x0,x1,x2,x3,x4,x5,x6,x7]) rfl (hfin.out _ ?_)
   exact (keptP8 ((hk0.out _).trans k2) (Nat.le_refl _) _ _ _ _ _ _ _ _).alloc _
theorem all8 {w:World} {g:Nat} {c0 c1 c2 c3 c4 c5 c6 c7:Value} {t:TypeId} (h:Blk w g #[c0,c1,c2,c3,c4,c5,c6,c7] t):
 w.cell? ⟨g,0,none⟩=some c0∧w.cell? ⟨g,1,none⟩=some c1∧w.cell? ⟨g,2,none⟩=some c2∧w.cell? ⟨g,3,none⟩=some c3∧w.cell? ⟨g,4,none⟩=some c4∧w.cell? ⟨g,5,none⟩=some c5∧w.cell? ⟨g,6,none⟩=some c6∧w.cell? ⟨g,7,none⟩=some c7∧g<w.heap.size:=
 ⟨h.cell 0,h.cell 1,h.cell 2,h.cell 3,h.cell 4,h.cell 5,h.cell 6,h.cell 7,h.lt⟩
theorem froz8 {w:World} {g:Nat} {cs:Array Value} {t:TypeId} (h:Blk w g cs t):
 w.frozen? ⟨g,0,none⟩=false∧w.frozen? ⟨g,1,none⟩=false∧w.frozen? ⟨g,2,none⟩=false∧w.frozen? ⟨g,3,none⟩=false∧w.frozen? ⟨g,4,none⟩=false∧w.frozen? ⟨g,5,none⟩=false∧w.frozen? ⟨g,6,none⟩=false∧w.frozen? ⟨g,7,none⟩=false:=
 ⟨h.frozen 0,h.frozen 1,h.frozen 2,h.frozen 3,h.frozen 4,h.frozen 5,h.frozen 6,h.frozen 7⟩
def z8:Array Value:=#[.int .i64 0,.int .i64 0,.pointer none,.int .u64 0,.int .i64 0,.int .u64 0,.int .u64 0,.int .i64 0]
structure JW (w x:World) (c:Array Value):Prop where
 k:Kept [] w x
 r:Blk x w.heap.size z8 119
 c:Blk x (w.heap.size+1) c 119
theorem JW.kept {w x y:World} {c:Array Value} (h:JW w x c) (k:Kept [] x y):JW w y c:=⟨h.k.trans k,h.r.kept k (by simp),h.c.kept k (by simp)⟩
theorem JW.set {w x:World} {c:Array Value} (h:JW w x c) (j:Nat) (v:Value):JW w (x.setCell ⟨w.heap.size+1,j,none⟩ v) (c.setIfInBounds j v):=
 ⟨h.k.setCell (Or.inr (by simp)) _,h.r.other _ _ (by omega),h.c.set j v⟩
theorem JW.drew {w x:World} {c:Array Value} (h:JW w x c):JW w x.drew c:=h.kept ((Kept.refl [] x).drew)
theorem JW.begin (w:World) (c:Array Value):JW w ((w.alloc (.cells z8 119)).alloc (.cells c 119)).drew c:=
 ⟨(((Kept.refl [] w).alloc _).alloc _).drew,((Blk.new w _ _).alloc _).drew,(Blk.new1 w _ _ _).drew⟩
theorem tabAt_keep {S:List Nat} {w w':World} {G o:Nat} {m:MP} (h:TabAt w G o m) (k:Kept S w w') (hg:G<w.heap.size) (hn:¬G∈S):TabAt w' G o m:=fun i hi=>by
 rw [←h i hi]
 unfold World.cell?
 simp only []
 rw [k.block G hg hn]
theorem tabAt_lt {w:World} {G o:Nat} {m:MP} (h:TabAt w G o m):G<w.heap.size:=by
 have:=h 0 (by omega)
 unfold World.cell? at this
 simp only [] at this
 cases hb:w.heap[G]? with
 | none=>rw [hb] at this;simp at this
 | some y=>exact (Array.getElem?_eq_some_iff.1 hb).1
theorem JW.done {w x:World} {v0 v1 v2 v3 v4 v5 v6 v7:Value} (h:JW w x #[v0,v1,v2,v3,v4,v5,v6,v7]):
 Kept [] w ((((((((x.setCell ⟨w.heap.size,0,none⟩ v0).setCell ⟨w.heap.size,1,none⟩ v1).setCell ⟨w.heap.size,2,none⟩ v2).setCell ⟨w.heap.size,3,none⟩ v3).setCell ⟨w.heap.size,4,none⟩ v4).setCell ⟨w.heap.size,5,none⟩ v5).setCell ⟨w.heap.size,6,none⟩ v6).setCell ⟨w.heap.size,7,none⟩ v7) ∧
 Blk ((((((((x.setCell ⟨w.heap.size,0,none⟩ v0).setCell ⟨w.heap.size,1,none⟩ v1).setCell ⟨w.heap.size,2,none⟩ v2).setCell ⟨w.heap.size,3,none⟩ v3).setCell ⟨w.heap.size,4,none⟩ v4).setCell ⟨w.heap.size,5,none⟩ v5).setCell ⟨w.heap.size,6,none⟩ v6).setCell ⟨w.heap.size,7,none⟩ v7) w.heap.size #[v0,v1,v2,v3,v4,v5,v6,v7] 119 ∧
 ∀G K,G≠w.heap.size→G<x.heap.size→TabAt x G 0 K→TabAt ((((((((x.setCell ⟨w.heap.size,0,none⟩ v0).setCell ⟨w.heap.size,1,none⟩ v1).setCell ⟨w.heap.size,2,none⟩ v2).setCell ⟨w.heap.size,3,none⟩ v3).setCell ⟨w.heap.size,4,none⟩ v4).setCell ⟨w.heap.size,5,none⟩ v5).setCell ⟨w.heap.size,6,none⟩ v6).setCell ⟨w.heap.size,7,none⟩ v7) G 0 K ∧
  G<((((((((x.setCell ⟨w.heap.size,0,none⟩ v0).setCell ⟨w.heap.size,1,none⟩ v1).setCell ⟨w.heap.size,2,none⟩ v2).setCell ⟨w.heap.size,3,none⟩ v3).setCell ⟨w.heap.size,4,none⟩ v4).setCell ⟨w.heap.size,5,none⟩ v5).setCell ⟨w.heap.size,6,none⟩ v6).setCell ⟨w.heap.size,7,none⟩ v7).heap.size:=by
 have hr:Blk x w.heap.size #[.int .i64 0,.int .i64 0,.pointer none,.int .u64 0,.int .i64 0,.int .u64 0,.int .u64 0,.int .i64 0] 119:=h.r
 refine ⟨keptP8 h.k (Nat.le_refl _) _ _ _ _ _ _ _ _,res8 hr _ _ _ _ _ _ _ _,fun G K hn hlt hT=>?_⟩
 have k:Kept [w.heap.size] x ((((((((x.setCell ⟨w.heap.size,0,none⟩ v0).setCell ⟨w.heap.size,1,none⟩ v1).setCell ⟨w.heap.size,2,none⟩ v2).setCell ⟨w.heap.size,3,none⟩ v3).setCell ⟨w.heap.size,4,none⟩ v4).setCell ⟨w.heap.size,5,none⟩ v5).setCell ⟨w.heap.size,6,none⟩ v6).setCell ⟨w.heap.size,7,none⟩ v7):=
  ((((((((Kept.refl [w.heap.size] x).setCell (Or.inl (by simp)) _).setCell (Or.inl (by simp)) _).setCell (Or.inl (by simp)) _).setCell (Or.inl (by simp)) _).setCell (Or.inl (by simp)) _).setCell (Or.inl (by simp)) _).setCell (Or.inl (by simp)) _).setCell (Or.inl (by simp)) _
 exact ⟨tabAt_keep hT k hlt (by simpa using hn),Nat.lt_of_lt_of_le hlt k.size⟩
section
variable {w:World} {gs:Nat} {inv:Bool} {ga oa gb ob:Nat} {a b:PCE} {aa ab:Option Addr}
theorem sjoin_none (ha:PAt w ga oa a aa) (hb:PAt w gb ob b ab) (h0:a.nl+b.nl=0) (hl:a.len+b.len≤1099511627776):
 Calls Tryz.prog 72 #[.pointer (some ⟨gs,0,none⟩),.pointer (some ⟨ga,oa,none⟩),.pointer (some ⟨gb,ob,none⟩)] w fun e w'=>POut w w' [] (joinPC inv a b) e:=by
 have hj:joinPC inv a b={ len:=a.len+b.len,nl:=0,nx:=thenN (tabM a.nx) a.tk (tabM b.nx) b.tk,tk:=b.tk }:=by unfold joinPC;rw [if_pos h0]
 rw [hj]
 obtain ⟨GA,OA,rfl,tA,lA⟩:=ha.tab (by omega)
 obtain ⟨GB,OB,rfl,tB,lB⟩:=hb.tab (by omega)
 have hn1:a.nl=0:=by omega
 have hn2:b.nl=0:=by omega
 have a0:=ha.c0
 have a1:=ha.c1
 have a2:=ha.c2
 have a3:=ha.c3
 have b0:=hb.c0
 have b1:=hb.c1
 have b2:=hb.c2
 have b3:=hb.c3
 rw [hn1] at a1
 rw [hn2] at b1
 have lga:=ha.lt
 have lgb:=hb.lt
 have ba:=ha.bd.len
 have bb:=hb.bd.len
 have hth:Hid (∀w',Kept [] w w'→Calls _ _ _ w' _):=fun w' k=>wthen_any (tabM a.nx) GA OA a.tk (tabM b.nx) GB OB b.tk w' (tA.kept k lA) (tB.kept k lB) (Nat.lt_of_lt_of_le lA k.size) (Nat.lt_of_lt_of_le lB k.size)
 clear ha hb hj hn1 hn2 tA tB
 generalize a.tk=TA at *
 generalize b.tk=TB at *
 generalize a.len=LA at *
 generalize b.len=LB at *
 go_enter Tryz.func72,Tryz.ntmps72
 go_wp2_with fail
 go_region
 all_goals
  obtain ⟨W1,hW1⟩:∃W1,W1=((w.alloc (.cells #[.int .i64 0,.int .i64 0,.pointer none,.int .u64 0,.int .i64 0,.int .u64 0,.int .u64 0,.int .i64 0] 119)).alloc (.cells #[.int .i64 ((LA:Int)+(LB:Int)),.int .i64 0,.pointer none,.int .u64 0,.int .i64 0,.int .u64 0,.int .u64 0,.int .i64 0] 119)).drew:=⟨_,rfl⟩
  have J1:Hid (JW w W1 #[.int .i64 ((LA:Int)+(LB:Int)),.int .i64 0,.pointer none,.int .u64 0,.int .i64 0,.int .u64 0,.int .u64 0,.int .i64 0]):=by show JW _ _ _;rw [hW1];exact JW.begin w _
  rw [←hW1]
  clear hW1
  have K1:=J1.out.k
  have a2':=(K1.cell lga (oa+2)).trans a2
  have a3':=(K1.cell lga (oa+3)).trans a3
  have b2':=(K1.cell lgb (ob+2)).trans b2
  have b3':=(K1.cell lgb (ob+3)).trans b3
  obtain ⟨g0,g1,g2,g3,g4,g5,g6,g7,gl⟩:=all8 J1.out.c
  have K1H:Hid (Kept [] w W1):=K1
  clear K1 a0 a1 a2 a3 b0 b1 b2 b3
  have hlt1:w.heap.size+1<W1.heap.size:=gl
  go_wp2_with fail
  go_region_law (go_simp;go_at_call 99;refine (hth.out _ (K1H.out.trans (by first | exact (Kept.refl [] _).drew | exact Kept.refl _ _))).mono ?_;rintro _ w5 ⟨k5,G,rfl,hG,hT5⟩;have J5:=J1.out.kept (Kept.trans (by first | exact (Kept.refl [] _).drew | exact Kept.refl _ _) k5);have J5H:Hid (JW _ _ _):=J5;obtain ⟨g0,g1,g2,g3,g4,g5,g6,g7,gl⟩:=all8 J5.c;obtain ⟨p0,p1,p2,p3,p4,p5,p6,p7⟩:=froz8 J5.c;obtain ⟨r0,r1,r2,r3,r4,r5,r6,r7,rl⟩:=all8 J5.r;obtain ⟨q0,q1,q2,q3,q4,q5,q6,q7⟩:=froz8 J5.r;clear J5)
  all_goals
   go_wp2
   have J6:JW w _ #[.int .i64 ((LA:Int)+(LB:Int)),.int .i64 0,.pointer (some ⟨G,0,none⟩),.int .u64 0,.int .i64 0,.int .u64 0,.int .u64 0,.int .i64 0]:=J5H.out.set 2 _
   have J7:JW w _ #[.int .i64 ((LA:Int)+(LB:Int)),.int .i64 0,.pointer (some ⟨G,0,none⟩),UV TB,.int .i64 0,.int .u64 0,.int .u64 0,.int .i64 0]:=J6.set 3 (UV TB)
   obtain ⟨ky,by8,ty⟩:=J7.done
   obtain ⟨x0,x1,x2,x3,x4,x5,x6,x7,_⟩:=all8 by8
   have hG':W1.heap.size≤G:=hG
   have hne1:¬G∈[w.heap.size+1]:=by simp;omega
   have kS:Kept [w.heap.size+1] w5 ((w5.setCell ⟨w.heap.size+1,2,none⟩ (.pointer (some ⟨G,0,none⟩))).setCell ⟨w.heap.size+1,3,none⟩ (UV TB)):=((Kept.refl [w.heap.size+1] w5).setCell (Or.inl (by simp)) _).setCell (Or.inl (by simp)) _
   have hG5:G<w5.heap.size:=tabAt_lt hT5
   obtain ⟨t1,t2⟩:=ty G _ (by omega) (Nat.lt_of_lt_of_le hG5 kS.size) (tabAt_keep hT5 kS hG5 hne1)
   refine bodyPost_ret (v:=.agg #[.int .i64 ((LA:Int)+(LB:Int)),.int .i64 0,.pointer (some ⟨G,0,none⟩),UV TB,.int .i64 0,.int .u64 0,.int .u64 0,.int .i64 0]) (by simp [results,Tryz.results72,go_sem,x0,x1,x2,x3,x4,x5,x6,x7]) rfl ?_
   exact ⟨ky,some ⟨G,0,none⟩,by unfold pcCells;simp only [Int.natCast_add];rfl,fun _=>⟨G,0,rfl,t1,t2⟩,fun A h=>by simp only [Option.some.injEq] at h;subst h;exact Or.inr (by simp only [];omega)⟩
end
section
variable {w:World} {gs:Nat} {inv:Bool} {ga oa gb ob:Nat} {a b:PCE} {aa ab:Option Addr}
theorem sjoin_both (ha:PAt w ga oa a aa) (hb:PAt w gb ob b ab) (hs:w.cell? ⟨gs,2,none⟩=some (.bool inv)) (hgs:gs<w.heap.size) (h1:a.nl≠0) (h2:b.nl≠0) (hl:a.len+b.len≤1099511627776):
 Calls Tryz.prog 72 #[.pointer (some ⟨gs,0,none⟩),.pointer (some ⟨ga,oa,none⟩),.pointer (some ⟨gb,ob,none⟩)] w fun e w'=>POut w w' [] (joinPC inv a b) e:=by
 have hj:joinPC inv a b={ len:=a.len+b.len,nl:=a.nl+b.nl,inside:=a.inside+endsP inv b a.la,en:=a.en,la:=b.la,tail:=b.tail }:=by
  unfold joinPC
  rw [if_neg (by omega),if_pos (by omega),if_pos (by omega),if_pos (by omega),if_pos (by omega)]
 rw [hj]
 have hfin:Hid (∀y,Kept [] w y→POut w y [] { len:=a.len+b.len,nl:=a.nl+b.nl,inside:=a.inside+endsP inv b a.la,en:=a.en,la:=b.la,tail:=b.tail } (.returned (.agg #[.int .i64 ((a.len:Int)+(b.len:Int)),.int .i64 ((a.nl:Int)+(b.nl:Int)),.pointer none,.int .u64 0,.int .i64 ((a.inside:Int)+(endsP inv b a.la:Int)),UV a.en,UV b.la,.int .i64 (b.tail:Int)]))):=fun y k=>
  ⟨k,none,by unfold pcCells;simp only [Int.natCast_add];rfl,(fun h=>by simp only [] at h;omega),fun A h=>by cases h⟩
 have hce:Hid (∀w',Kept [] w w'→Calls _ _ _ w' _):=fun w' k=>countEnds_any (gs:=gs) a.la ((k.cell hgs 2).trans hs) (hb.kept k)
 have he1:=endsP_le inv b a.la
 have a0:=ha.c0
 have a1:=ha.c1
 have a5:=ha.c5
 have a4:=ha.c4
 have a6:=ha.c6
 have b0:=hb.c0
 have b1:=hb.c1
 have b6:=hb.c6
 have b7:=hb.c7
 have lga:=ha.lt
 have lgb:=hb.lt
 have ba:=ha.bd.len
 have bb:=hb.bd.len
 have ban:=ha.bd.nl
 have bbn:=hb.bd.nl
 have bai:=ha.bd.inside
 have bbi:=hb.bd.inside
 have hna:((a.nl:Nat):Int)≠0:=by omega
 have hnb:((b.nl:Nat):Int)≠0:=by omega
 have hp1:(0:Int)<(a.nl:Int):=by omega
 have hp2:(0:Int)<(b.nl:Int):=by omega
 have hne1:ga≠w.heap.size+1:=by omega
 have hne2:gb≠w.heap.size+1:=by omega
 clear ha hb hj h1 h2
 generalize a.en=AE at *
 generalize a.la=AL at *
 generalize b.la=BL at *
 generalize endsP inv b AL=EN at *
 generalize a.inside=AI at *
 generalize b.tail=BT at *
 generalize a.len=LA at *
 generalize b.len=LB at *
 generalize a.nl=NA at *
 generalize b.nl=NB at *
 have hsum:((NA:Int)+(NB:Int))≠0:=by omega
 go_enter Tryz.func72,Tryz.ntmps72
 go_wp2_with fail
 go_region
 all_goals
  obtain ⟨W1,hW1⟩:∃W1,W1=((w.alloc (.cells #[.int .i64 0,.int .i64 0,.pointer none,.int .u64 0,.int .i64 0,.int .u64 0,.int .u64 0,.int .i64 0] 119)).alloc (.cells #[.int .i64 ((LA:Int)+(LB:Int)),.int .i64 ((NA:Int)+(NB:Int)),.pointer none,.int .u64 0,.int .i64 0,.int .u64 0,.int .u64 0,.int .i64 0] 119)).drew:=⟨_,rfl⟩
  have J1:Hid (JW w W1 #[.int .i64 ((LA:Int)+(LB:Int)),.int .i64 ((NA:Int)+(NB:Int)),.pointer none,.int .u64 0,.int .i64 0,.int .u64 0,.int .u64 0,.int .i64 0]):=by show JW _ _ _;rw [hW1];exact JW.begin w _
  rw [←hW1]
  clear hW1
  have K1:=J1.out.k
  have a1':=(K1.cell lga (oa+1)).trans a1
  have b1':=(K1.cell lgb (ob+1)).trans b1
  obtain ⟨g0,g1,g2,g3,g4,g5,g6,g7,gl⟩:=all8 J1.out.c
  obtain ⟨f0,f1,f2,f3,f4,f5,f6,f7⟩:=froz8 J1.out.c
  obtain ⟨r0,r1,r2,r3,r4,r5,r6,r7,rl⟩:=all8 J1.out.r
  obtain ⟨q0,q1,q2,q3,q4,q5,q6,q7⟩:=froz8 J1.out.r
  have a4':=(K1.cell lga (oa+4)).trans a4
  have a5':=(K1.cell lga (oa+5)).trans a5
  have a6':=(K1.cell lga (oa+6)).trans a6
  have b6':=(K1.cell lgb (ob+6)).trans b6
  have b7':=(K1.cell lgb (ob+7)).trans b7
  have K2:Hid (Kept [] w (W1.setCell ⟨w.heap.size+1,5,none⟩ (UV AE))):=K1.setCell (Or.inr (by simp)) _
  clear K1 a0 a1 a4 a5 a6 b0 b1 b6 b7
  go_wp2_with fail
  go_region_law (go_simp;go_at_call 17;refine (hce.out _ (by first | exact K2.out.drew | exact K2.out)).mono ?_;rintro _ _ ⟨rfl,rfl⟩)
  all_goals
   go_wp2
   have J2:JW w _ #[.int .i64 ((LA:Int)+(LB:Int)),.int .i64 ((NA:Int)+(NB:Int)),.pointer none,.int .u64 0,.int .i64 0,UV AE,.int .u64 0,.int .i64 0]:=J1.out.set 5 _
   have J3:JW w _ #[.int .i64 ((LA:Int)+(LB:Int)),.int .i64 ((NA:Int)+(NB:Int)),.pointer none,.int .u64 0,.int .i64 ((AI:Int)+(EN:Int)),UV AE,.int .u64 0,.int .i64 0]:=J2.set 4 _
   have J4:JW w _ #[.int .i64 ((LA:Int)+(LB:Int)),.int .i64 ((NA:Int)+(NB:Int)),.pointer none,.int .u64 0,.int .i64 ((AI:Int)+(EN:Int)),UV AE,UV BL,.int .i64 0]:=J3.set 6 _
   have J5:JW w _ #[.int .i64 ((LA:Int)+(LB:Int)),.int .i64 ((NA:Int)+(NB:Int)),.pointer none,.int .u64 0,.int .i64 ((AI:Int)+(EN:Int)),UV AE,UV BL,.int .i64 (BT:Int)]:=J4.set 7 _
   obtain ⟨ky,by8,_⟩:=J5.done
   obtain ⟨x0,x1,x2,x3,x4,x5,x6,x7,_⟩:=all8 by8.drew
   refine bodyPost_ret (v:=.agg #[.int .i64 ((LA:Int)+(LB:Int)),.int .i64 ((NA:Int)+(NB:Int)),.pointer none,.int .u64 0,.int .i64 ((AI:Int)+(EN:Int)),UV AE,UV BL,.int .i64 (BT:Int)]) (by simp [results,Tryz.results72,go_sem,x0,x1,x2,x3,x4,x5,x6,x7]) rfl (hfin.out _ ky.drew)
end
section
variable {w:World} {gs:Nat} {inv:Bool} {ga oa gb ob:Nat} {a b:PCE} {aa ab:Option Addr}
theorem sjoin_front (ha:PAt w ga oa a aa) (hb:PAt w gb ob b ab) (hs:w.cell? ⟨gs,2,none⟩=some (.bool inv)) (hgs:gs<w.heap.size) (h1:a.nl≠0) (h2:b.nl=0) (hl:a.len+b.len≤1099511627776):
 Calls Tryz.prog 72 #[.pointer (some ⟨gs,0,none⟩),.pointer (some ⟨ga,oa,none⟩),.pointer (some ⟨gb,ob,none⟩)] w fun e w'=>POut w w' [] (joinPC inv a b) e:=by
 obtain ⟨GB,OB,rfl,tB,lB⟩:=hb.tab h2
 have hj:joinPC inv a b={ len:=a.len+b.len,nl:=a.nl,inside:=a.inside,en:=a.en,la:=fromP (tabM b.nx) b.tk a.la,tail:=a.tail+b.len }:=by
  have e1:¬a.nl+b.nl=0:=by omega
  have e2:0<a.nl:=by omega
  have e3:¬ 0<b.nl:=by omega
  unfold joinPC endsP
  rw [if_neg e1]
  simp only [if_pos e2,if_neg e3,if_pos h2]
  rw [h2];rfl
 rw [hj]
 have hfin:Hid (∀y,Kept [] w y→POut w y [] { len:=a.len+b.len,nl:=a.nl,inside:=a.inside,en:=a.en,la:=fromP (tabM b.nx) b.tk a.la,tail:=a.tail+b.len } (.returned (.agg #[.int .i64 ((a.len:Int)+(b.len:Int)),.int .i64 (a.nl:Int),.pointer none,.int .u64 0,.int .i64 (a.inside:Int),UV a.en,UV (fromP (tabM b.nx) b.tk a.la),.int .i64 ((a.tail:Int)+(b.len:Int))]))):=fun y k=>
  ⟨k,none,by unfold pcCells;simp only [Int.natCast_add];rfl,(fun h=>by simp only [] at h;omega),fun A h=>by cases h⟩
 have hce:Hid (∀w',Kept [] w w'→Calls Tryz.prog 17 #[.pointer (some ⟨gs,0,none⟩),.pointer (some ⟨gb,ob,none⟩),.int .u64 (a.la.toNat:Int)] w' fun e w2=>e=.returned (.int .i64 0)∧w2=w'):=fun w' k=>by
  have h:=countEnds_any (gs:=gs) a.la ((k.cell hgs 2).trans hs) (hb.kept k)
  have e:endsP inv b a.la=0:=if_pos h2
  rw [e] at h
  exact h
 have hfr:Hid (∀w',Kept [] w w'→Calls _ _ _ w' _):=fun w' k=>from_any (tabM b.nx) GB OB b.tk a.la w' (tB.kept k lB)
 have a0:=ha.c0
 have a1:=ha.c1
 have a5:=ha.c5
 have a4:=ha.c4
 have a6:=ha.c6
 have a7:=ha.c7
 have b0:=hb.c0
 have b1:=hb.c1
 have b2:=hb.c2
 have b3:=hb.c3
 have lga:=ha.lt
 have lgb:=hb.lt
 have ba:=ha.bd.len
 have bb:=hb.bd.len
 have ban:=ha.bd.nl
 have bai:=ha.bd.inside
 have bat:=ha.bd.tail
 have hna:((a.nl:Nat):Int)≠0:=by omega
 have hp1:(0:Int)<(a.nl:Int):=by omega
 have hne1:ga≠w.heap.size+1:=by omega
 have hne2:gb≠w.heap.size+1:=by omega
 rw [h2] at b1
 clear ha hb hj h1 h2 tB
 generalize a.en=AE at *
 generalize fromP (tabM b.nx) b.tk a.la=BL at *
 generalize a.la=AL at *
 generalize b.tk=TB at *
 generalize a.inside=AI at *
 generalize a.tail=AT at *
 generalize a.len=LA at *
 generalize b.len=LB at *
 generalize a.nl=NA at *
 go_enter Tryz.func72,Tryz.ntmps72
 go_wp2_with fail
 go_region
 all_goals
  obtain ⟨W1,hW1⟩:∃W1,W1=((w.alloc (.cells #[.int .i64 0,.int .i64 0,.pointer none,.int .u64 0,.int .i64 0,.int .u64 0,.int .u64 0,.int .i64 0] 119)).alloc (.cells #[.int .i64 ((LA:Int)+(LB:Int)),.int .i64 (NA:Int),.pointer none,.int .u64 0,.int .i64 0,.int .u64 0,.int .u64 0,.int .i64 0] 119)).drew:=⟨_,rfl⟩
  have J1:Hid (JW w W1 #[.int .i64 ((LA:Int)+(LB:Int)),.int .i64 (NA:Int),.pointer none,.int .u64 0,.int .i64 0,.int .u64 0,.int .u64 0,.int .i64 0]):=by show JW _ _ _;rw [hW1];exact JW.begin w _
  rw [←hW1]
  clear hW1
  have K1:=J1.out.k
  have a1':=(K1.cell lga (oa+1)).trans a1
  have b1':=(K1.cell lgb (ob+1)).trans b1
  obtain ⟨g0,g1,g2,g3,g4,g5,g6,g7,gl⟩:=all8 J1.out.c
  obtain ⟨f0,f1,f2,f3,f4,f5,f6,f7⟩:=froz8 J1.out.c
  obtain ⟨r0,r1,r2,r3,r4,r5,r6,r7,rl⟩:=all8 J1.out.r
  obtain ⟨q0,q1,q2,q3,q4,q5,q6,q7⟩:=froz8 J1.out.r
  have a4':=(K1.cell lga (oa+4)).trans a4
  have a5':=(K1.cell lga (oa+5)).trans a5
  have a6':=(K1.cell lga (oa+6)).trans a6
  have K2:Hid (Kept [] w (W1.setCell ⟨w.heap.size+1,5,none⟩ (UV AE))):=K1.setCell (Or.inr (by simp)) _
  clear K1
  go_wp2_with fail
  go_region_law (go_simp;go_at_call 17;refine (hce.out _ (by first | exact K2.out.drew | exact K2.out)).mono ?_;rintro _ _ ⟨rfl,rfl⟩)
  all_goals
   go_wp2_with fail
   obtain ⟨W2,hW2⟩:∃W2,W2=((W1.setCell ⟨w.heap.size+1,5,none⟩ (UV AE)).setCell ⟨w.heap.size+1,4,none⟩ (.int .i64 (AI:Int))).drew:=⟨_,rfl⟩
   have J2:JW w _ #[.int .i64 ((LA:Int)+(LB:Int)),.int .i64 (NA:Int),.pointer none,.int .u64 0,.int .i64 0,UV AE,.int .u64 0,.int .i64 0]:=J1.out.set 5 (UV AE)
   have J3:JW w _ #[.int .i64 ((LA:Int)+(LB:Int)),.int .i64 (NA:Int),.pointer none,.int .u64 0,.int .i64 (AI:Int),UV AE,.int .u64 0,.int .i64 0]:=J2.set 4 (.int .i64 (AI:Int))
   have J4:Hid (JW w W2 #[.int .i64 ((LA:Int)+(LB:Int)),.int .i64 (NA:Int),.pointer none,.int .u64 0,.int .i64 (AI:Int),UV AE,.int .u64 0,.int .i64 0]):=by show JW _ _ _;rw [hW2];exact J3.drew
   rw [←hW2]
   clear hW2 J2 J3 J1 K2 a1' b1' a4' a5' a6' g0 g1 g2 g3 g4 g5 g6 g7 gl f0 f1 f2 f3 f4 f5 f6 f7 r0 r1 r2 r3 r4 r5 r6 r7 rl q0 q1 q2 q3 q4 q5 q6 q7
   have K4:=J4.out.k
   have c6':=(K4.cell lga (oa+6)).trans a6
   have d2':=(K4.cell lgb (ob+2)).trans b2
   have d3':=(K4.cell lgb (ob+3)).trans b3
   have K4H:Hid (Kept [] w W2):=K4
   have gl:w.heap.size+1<W2.heap.size:=J4.out.c.lt
   have a7H:Hid (_=_):=a7
   have b0H:Hid (_=_):=b0
   clear K4 a0 a1 a4 a5 a6 a7 b0 b1 b2 b3
   go_wp2_with fail
   go_region_law (go_simp;go_at_call 38;refine (hfr.out _ (by first | exact K4H.out.drew | exact K4H.out)).mono ?_;rintro _ w5 ⟨rfl,k5⟩;have J5:Hid (JW _ w5 _):=J4.out.kept (Kept.trans (by first | exact (Kept.refl [] _).drew | exact Kept.refl _ _) k5);obtain ⟨g0,g1,g2,g3,g4,g5,g6,g7,gl5⟩:=all8 J5.out.c;obtain ⟨f0,f1,f2,f3,f4,f5,f6,f7⟩:=froz8 J5.out.c;obtain ⟨r0,r1,r2,r3,r4,r5,r6,r7,rl⟩:=all8 J5.out.r;obtain ⟨q0,q1,q2,q3,q4,q5,q6,q7⟩:=froz8 J5.out.r;have a7':=(J5.out.k.cell lga (oa+7)).trans a7H.out;have b0':=(J5.out.k.cell lgb ob).trans b0H.out)
   all_goals
    go_wp2_with fail
    go_region
    all_goals
     go_wp2
     have J6:JW w _ #[.int .i64 ((LA:Int)+(LB:Int)),.int .i64 (NA:Int),.pointer none,.int .u64 0,.int .i64 (AI:Int),UV AE,UV BL,.int .i64 0]:=J5.out.set 6 (UV BL)
     have J7:JW w _ #[.int .i64 ((LA:Int)+(LB:Int)),.int .i64 (NA:Int),.pointer none,.int .u64 0,.int .i64 (AI:Int),UV AE,UV BL,.int .i64 ((AT:Int)+(LB:Int))]:=J6.set 7 (.int .i64 ((AT:Int)+(LB:Int)))
     obtain ⟨ky,by8,_⟩:=J7.done
     obtain ⟨x0,x1,x2,x3,x4,x5,x6,x7,_⟩:=all8 by8.drew
     refine bodyPost_ret (v:=.agg #[.int .i64 ((LA:Int)+(LB:Int)),.int .i64 (NA:Int),.pointer none,.int .u64 0,.int .i64 (AI:Int),UV AE,UV BL,.int .i64 ((AT:Int)+(LB:Int))]) (by simp [results,Tryz.results72,go_sem,x0,x1,x2,x3,x4,x5,x6,x7]) rfl (hfin.out _ ky.drew)
end
section
variable {w:World} {gs:Nat} {inv:Bool} {ga oa gb ob:Nat} {a b:PCE} {aa ab:Option Addr}
theorem sjoin_back (ha:PAt w ga oa a aa) (hb:PAt w gb ob b ab) (hs:w.cell? ⟨gs,2,none⟩=some (.bool inv)) (hgs:gs<w.heap.size) (h1:a.nl=0) (h2:b.nl≠0) (hl:a.len+b.len≤1099511627776):
 Calls Tryz.prog 72 #[.pointer (some ⟨gs,0,none⟩),.pointer (some ⟨ga,oa,none⟩),.pointer (some ⟨gb,ob,none⟩)] w fun e w'=>POut w w' [] (joinPC inv a b) e:=by
 obtain ⟨GA,OA,rfl,tA,lA⟩:=ha.tab h1
 have hj:joinPC inv a b={ len:=a.len+b.len,nl:=b.nl,inside:=b.inside,en:=intoP (tabM a.nx) a.tk b.en,la:=b.la,tail:=b.tail }:=by
  unfold joinPC
  rw [if_neg (by omega),if_neg (by omega),if_neg (by omega),if_pos (by omega),if_pos (by omega),h1,Nat.zero_add]
 rw [hj]
 have hfin:Hid (∀y,Kept [] w y→POut w y [] { len:=a.len+b.len,nl:=b.nl,inside:=b.inside,en:=intoP (tabM a.nx) a.tk b.en,la:=b.la,tail:=b.tail } (.returned (.agg #[.int .i64 ((a.len:Int)+(b.len:Int)),.int .i64 (b.nl:Int),.pointer none,.int .u64 0,.int .i64 (b.inside:Int),UV (intoP (tabM a.nx) a.tk b.en),UV b.la,.int .i64 (b.tail:Int)]))):=fun y k=>
  ⟨k,none,by unfold pcCells;simp only [Int.natCast_add];rfl,(fun h=>by simp only [] at h;omega),fun A h=>by cases h⟩
 have hin:Hid (∀w',Kept [] w w'→Calls _ _ _ w' _):=fun w' k=>into_any (tabM a.nx) GA OA a.tk b.en w' (tA.kept k lA)
 have a0:=ha.c0
 have a1:=ha.c1
 have a2:=ha.c2
 have a3:=ha.c3
 have b0:=hb.c0
 have b1:=hb.c1
 have b4:=hb.c4
 have b5:=hb.c5
 have b6:=hb.c6
 have b7:=hb.c7
 have lga:=ha.lt
 have lgb:=hb.lt
 have ba:=ha.bd.len
 have bb:=hb.bd.len
 have bbn:=hb.bd.nl
 have hnb:((b.nl:Nat):Int)≠0:=by omega
 have hp2:(0:Int)<(b.nl:Int):=by omega
 have hne1:ga≠w.heap.size+1:=by omega
 have hne2:gb≠w.heap.size+1:=by omega
 rw [h1] at a1
 clear ha hb hj h1 h2 tA
 generalize intoP (tabM a.nx) a.tk b.en=IN at *
 generalize a.tk=TA at *
 generalize b.en=BE at *
 generalize b.la=BL at *
 generalize b.inside=BI at *
 generalize b.tail=BT at *
 generalize a.len=LA at *
 generalize b.len=LB at *
 generalize b.nl=NB at *
 go_enter Tryz.func72,Tryz.ntmps72
 go_wp2_with fail
 go_region
 all_goals
  obtain ⟨W1,hW1⟩:∃W1,W1=((w.alloc (.cells #[.int .i64 0,.int .i64 0,.pointer none,.int .u64 0,.int .i64 0,.int .u64 0,.int .u64 0,.int .i64 0] 119)).alloc (.cells #[.int .i64 ((LA:Int)+(LB:Int)),.int .i64 (NB:Int),.pointer none,.int .u64 0,.int .i64 0,.int .u64 0,.int .u64 0,.int .i64 0] 119)).drew:=⟨_,rfl⟩
  have J1:Hid (JW w W1 #[.int .i64 ((LA:Int)+(LB:Int)),.int .i64 (NB:Int),.pointer none,.int .u64 0,.int .i64 0,.int .u64 0,.int .u64 0,.int .i64 0]):=by show JW _ _ _;rw [hW1];exact JW.begin w _
  rw [←hW1]
  clear hW1
  have K1:=J1.out.k
  have a1':=(K1.cell lga (oa+1)).trans a1
  have b1':=(K1.cell lgb (ob+1)).trans b1
  obtain ⟨g0,g1,g2,g3,g4,g5,g6,g7,gl⟩:=all8 J1.out.c
  obtain ⟨f0,f1,f2,f3,f4,f5,f6,f7⟩:=froz8 J1.out.c
  obtain ⟨r0,r1,r2,r3,r4,r5,r6,r7,rl⟩:=all8 J1.out.r
  obtain ⟨q0,q1,q2,q3,q4,q5,q6,q7⟩:=froz8 J1.out.r
  have a2':=(K1.cell lga (oa+2)).trans a2
  have a3':=(K1.cell lga (oa+3)).trans a3
  have b5':=(K1.cell lgb (ob+5)).trans b5
  have K1H:Hid (Kept [] w W1):=K1
  have b1H:Hid (_=_):=b1
  have b4H:Hid (_=_):=b4
  have b6H:Hid (_=_):=b6
  have b7H:Hid (_=_):=b7
  clear K1 a0 a1 a2 a3 b0 b1 b4 b5 b6 b7
  go_wp2_with fail
  go_region_law (go_simp;go_at_call 98;refine (hin.out _ (by first | exact K1H.out.drew | exact K1H.out)).mono ?_;rintro _ w5 ⟨rfl,k5⟩;have J5:Hid (JW _ w5 _):=J1.out.kept (Kept.trans (by first | exact (Kept.refl [] _).drew | exact Kept.refl _ _) k5);obtain ⟨g0,g1,g2,g3,g4,g5,g6,g7,gl5⟩:=all8 J5.out.c;obtain ⟨f0,f1,f2,f3,f4,f5,f6,f7⟩:=froz8 J5.out.c;obtain ⟨r0,r1,r2,r3,r4,r5,r6,r7,rl⟩:=all8 J5.out.r;obtain ⟨q0,q1,q2,q3,q4,q5,q6,q7⟩:=froz8 J5.out.r;have b1':=(J5.out.k.cell lgb (ob+1)).trans b1H.out;have b4':=(J5.out.k.cell lgb (ob+4)).trans b4H.out;have b6':=(J5.out.k.cell lgb (ob+6)).trans b6H.out;have b7':=(J5.out.k.cell lgb (ob+7)).trans b7H.out)
  all_goals
   go_wp2
   have J6:JW w _ #[.int .i64 ((LA:Int)+(LB:Int)),.int .i64 (NB:Int),.pointer none,.int .u64 0,.int .i64 0,UV IN,.int .u64 0,.int .i64 0]:=J5.out.set 5 (UV IN)
   have J7:JW w _ #[.int .i64 ((LA:Int)+(LB:Int)),.int .i64 (NB:Int),.pointer none,.int .u64 0,.int .i64 (BI:Int),UV IN,.int .u64 0,.int .i64 0]:=J6.set 4 (.int .i64 (BI:Int))
   have J8:JW w _ #[.int .i64 ((LA:Int)+(LB:Int)),.int .i64 (NB:Int),.pointer none,.int .u64 0,.int .i64 (BI:Int),UV IN,UV BL,.int .i64 0]:=J7.set 6 (UV BL)
   have J9:JW w _ #[.int .i64 ((LA:Int)+(LB:Int)),.int .i64 (NB:Int),.pointer none,.int .u64 0,.int .i64 (BI:Int),UV IN,UV BL,.int .i64 (BT:Int)]:=J8.set 7 (.int .i64 (BT:Int))
   obtain ⟨ky,by8,_⟩:=J9.done
   obtain ⟨x0,x1,x2,x3,x4,x5,x6,x7,_⟩:=all8 by8
   refine bodyPost_ret (v:=.agg #[.int .i64 ((LA:Int)+(LB:Int)),.int .i64 (NB:Int),.pointer none,.int .u64 0,.int .i64 (BI:Int),UV IN,UV BL,.int .i64 (BT:Int)]) (by simp [results,Tryz.results72,go_sem,x0,x1,x2,x3,x4,x5,x6,x7]) rfl (hfin.out _ ky)
theorem sjoin_any (ha:PAt w ga oa a aa) (hb:PAt w gb ob b ab) (hs:w.cell? ⟨gs,2,none⟩=some (.bool inv)) (hgs:gs<w.heap.size) (hl:a.len+b.len≤1099511627776):
 Calls Tryz.prog 72 #[.pointer (some ⟨gs,0,none⟩),.pointer (some ⟨ga,oa,none⟩),.pointer (some ⟨gb,ob,none⟩)] w fun e w'=>POut w w' [] (joinPC inv a b) e:=by
 by_cases h1:a.nl=0
 · by_cases h2:b.nl=0
   · exact sjoin_none ha hb (by omega) hl
   · exact sjoin_back ha hb hs hgs h1 h2 hl
 · by_cases h2:b.nl=0
   · exact sjoin_front ha hb hs hgs h1 h2 hl
   · exact sjoin_both ha hb hs hgs h1 h2 hl
end
end Go.Proofs.YtgifhgnccmnbiabGreat
