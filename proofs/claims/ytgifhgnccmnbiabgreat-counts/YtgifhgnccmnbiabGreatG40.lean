/- Package sift: open, walked. -/
import Derived.Test.YtgifhgnccmnbiabGreatG39
import Derived.Test.YtgifhgnccmnbiabGreatG23
set_option linter.unusedVariables false
set_option linter.unusedSimpArgs false
set_option maxHeartbeats 4000000
set_option maxRecDepth 100000
namespace Go.Proofs.YtgifhgnccmnbiabGreat
open Go.RowKit Go.IntWalk
def machOf (r:Nat×PS) (fold whole:Bool):MP:=finP (buildP r.2.2 (lastQ r.2.2 r.2.2.length) fold whole)
theorem sread_bad {p:ByteArray} {x:Int} (h:PatE p x) (inv fold whole num:Bool) (mx:Int) (w:World) (hm0:0≤mx) (hp:p.size≤maxLen):
 Calls Tryz.prog 12 #[.agg #[.bool inv,.bool fold,.bool whole,.bool num,.int .i64 mx],.string p] w fun e w'=>e=.returned (.tuple #[.agg #[.slice none 0 0,.int .i64 0],.int .i64 x])∧Below w.heap.size w w':=by
 by_cases hlen:40<p.size
 · rw [h.one (Or.inl ⟨hlen,rfl⟩)]
   exact sread_long inv fold whole num mx p w hm0 hlen hp
 · refine (sread_any inv fold whole num mx p w hm0 (by omega)).mono ?_
   rintro e w' ⟨h1,r,ev,hidx,hc⟩
   refine ⟨?_,h1⟩
   rcases hc with ⟨h4,rfl⟩ | ⟨h4,h5,rfl⟩ | ⟨h4,h5,_⟩
   · rw [h.one (Or.inr ⟨by omega,r,ev,Or.inl ⟨h4,rfl⟩⟩)]
   · rw [h.one (Or.inr ⟨by omega,r,ev,Or.inr ⟨h4,h5,rfl⟩⟩)]
   · exact absurd h (fun hE=>PatOk.not ⟨by omega,ev,h4,h5⟩ hE)
structure RdOk (w w':World) (p:ByteArray) (r:Nat×PS) (e:Ending):Prop where
 below:Below w.heap.size w w'
 ex:∃b ao n c xs,w.heap.size≤b∧NV w' b p r.2.1 r.2.2 (.slice ao n c) xs∧e=.returned (.tuple #[.agg #[.slice ao n c,.int .i64 (sizeAt r.2.2 r.1)],.int .i64 0])
theorem sread_ok {p:ByteArray} {r:Nat×PS} (h:PatOk p r) (inv fold whole num:Bool) (mx:Int) (w:World) (hm0:0≤mx):
 Calls Tryz.prog 12 #[.agg #[.bool inv,.bool fold,.bool whole,.bool num,.int .i64 mx],.string p] w fun e w'=>RdOk w w' p r e:=by
 refine (sread_any inv fold whole num mx p w hm0 h.small).mono ?_
 rintro e w' ⟨h1,r',ev,hidx,hc⟩
 have he:=h.ev.one ev
 subst he
 rcases hc with ⟨h4,rfl⟩ | ⟨h4,h5,rfl⟩ | ⟨h4,h5,b,ao,n,c,xs,hb,hn,rfl⟩
 · exact absurd h4 h.good
 · have:=h.size;omega
 · exact ⟨h1,b,ao,n,c,xs,hb,hn,rfl⟩
def zSearch:Array Value:=#[.pointer none,.int .u64 0,.bool false,.int .i64 0,.slice none 0 0]
theorem res5 {w:World} {g:Nat} {c0 c1 c2 c3 c4:Value} {t:TypeId} (h:Blk w g #[c0,c1,c2,c3,c4] t) (v0 v1 v2 v3 v4:Value):
 Blk (((((w.setCell ⟨g,0,none⟩ v0).setCell ⟨g,1,none⟩ v1).setCell ⟨g,2,none⟩ v2).setCell ⟨g,3,none⟩ v3).setCell ⟨g,4,none⟩ v4) g #[v0,v1,v2,v3,v4] t:=by
 have h0:Blk _ g #[v0,c1,c2,c3,c4] t:=h.set 0 v0
 have h1:Blk _ g #[v0,v1,c2,c3,c4] t:=h0.set 1 v1
 have h2:Blk _ g #[v0,v1,v2,c3,c4] t:=h1.set 2 v2
 have h3:Blk _ g #[v0,v1,v2,v3,c4] t:=h2.set 3 v3
 have h4:Blk _ g #[v0,v1,v2,v3,v4] t:=h3.set 4 v4
 exact h4
theorem all5 {w:World} {g:Nat} {c0 c1 c2 c3 c4:Value} {t:TypeId} (h:Blk w g #[c0,c1,c2,c3,c4] t):
 w.cell? ⟨g,0,none⟩=some c0∧w.cell? ⟨g,1,none⟩=some c1∧w.cell? ⟨g,2,none⟩=some c2∧w.cell? ⟨g,3,none⟩=some c3∧w.cell? ⟨g,4,none⟩=some c4∧g<w.heap.size:=
 ⟨h.cell 0,h.cell 1,h.cell 2,h.cell 3,h.cell 4,h.lt⟩
theorem froz5 {w:World} {g:Nat} {cs:Array Value} {t:TypeId} (h:Blk w g cs t):
 w.frozen? ⟨g,0,none⟩=false∧w.frozen? ⟨g,1,none⟩=false∧w.frozen? ⟨g,2,none⟩=false∧w.frozen? ⟨g,3,none⟩=false∧w.frozen? ⟨g,4,none⟩=false:=
 ⟨h.frozen 0,h.frozen 1,h.frozen 2,h.frozen 3,h.frozen 4⟩
structure OW (w x:World) (o:Array Value):Prop where
 b:Below w.heap.size w x
 o:Blk x w.heap.size o 23
 r:Blk x (w.heap.size+1) zSearch 34
 lt:w.heap.size+1<x.heap.size
theorem OW.begin (w:World) (o:Array Value):OW w ((w.alloc (.cells o 23)).alloc (.cells zSearch 34)) o:=
 ⟨((Below.refl _ _).alloc (Nat.le_refl _) _).alloc (by simp) _,(Blk.new w _ _).alloc _,Blk.new1 w _ _ _,by simp⟩
theorem OW.more {w x y:World} {o:Array Value} (h:OW w x o) (b:Below x.heap.size x y):OW w y o:=
 ⟨h.b.trans (b.mono h.b.size),(b.block _ h.o.lt).trans h.o,(b.block _ h.r.lt).trans h.r,Nat.lt_of_lt_of_le h.lt b.size⟩
theorem OW.kept {w x y:World} {o:Array Value} (h:OW w x o) (k:Kept [] x y):OW w y o:=h.more (k.below (Nat.le_refl _) (by simp))
theorem below5 {w x:World} {g:Nat} (h:Below w.heap.size w x) (hg:w.heap.size≤g) (v0 v1 v2 v3 v4:Value):
 Below w.heap.size w (((((x.setCell ⟨g,0,none⟩ v0).setCell ⟨g,1,none⟩ v1).setCell ⟨g,2,none⟩ v2).setCell ⟨g,3,none⟩ v3).setCell ⟨g,4,none⟩ v4):=
 ((((h.setCell hg _).setCell hg _).setCell hg _).setCell hg _).setCell hg _
theorem sopen_no {inv fold whole num:Bool} {mx x:Int} {p f:ByteArray} (w:World) (hx:x≠0) (hc:∀w,Calls Tryz.prog 12 #[.agg #[.bool inv,.bool fold,.bool whole,.bool num,.int .i64 mx],.string p] w fun e w'=>e=.returned (.tuple #[.agg #[.slice none 0 0,.int .i64 0],.int .i64 x])∧Below w.heap.size w w'):
 Calls Tryz.prog 7 #[.agg #[.bool inv,.bool fold,.bool whole,.bool num,.int .i64 mx],.string p,.string f] w fun e w'=>e=.returned (.tuple #[.agg zSearch,.int .i64 x])∧Below w.heap.size w w':=by
 have hcH:Hid (∀w,Calls _ _ _ w _):=hc
 have h0:Hid (OW w _ #[.bool inv,.bool fold,.bool whole,.bool num,.int .i64 mx]):=OW.begin w _
 clear hc
 unfold zSearch at h0
 have hxb:(x != 0)=true:=by simp [hx]
 go_enter Tryz.func7,Tryz.ntmps7
 go_wp2_with (go_at_call 12;refine (hcH.out _).mono ?_;rintro e w1 ⟨rfl,b1⟩;have O1:Hid (OW w w1 _):=h0.out.more b1;have R1:Blk w1 (w.heap.size+1) #[.pointer none,.int .u64 0,.bool false,.int .i64 0,.slice none 0 0] 34:=O1.out.r;obtain ⟨g0,g1,g2,g3,g4,gl⟩:=all5 R1;obtain ⟨f0,f1,f2,f3,f4⟩:=froz5 R1;clear R1)
 have R2:Blk w1 (w.heap.size+1) #[.pointer none,.int .u64 0,.bool false,.int .i64 0,.slice none 0 0] 34:=O1.out.r
 have R3:=(res5 R2 (.pointer none) (.int .u64 0) (.bool false) (.int .i64 0) (.slice none 0 0)).alloc (.cells #[.slice none 0 0,.int .i64 0] 54)
 obtain ⟨x0,x1,x2,x3,x4,_⟩:=all5 R3
 refine bodyPost_ret (v:=.tuple #[.agg zSearch,.int .i64 x]) (by simp [results,Tryz.results7,go_sem,zSearch,x0,x1,x2,x3,x4]) rfl ⟨rfl,?_⟩
 exact (below5 O1.out.b (by omega) _ _ _ _ _).alloc (by have:=O1.out.b.size;simpa using this) _
theorem below_kept {w w':World} (h:Below w.heap.size w w'):Kept [] w w':=⟨h.os,h.tape,h.output,h.size,fun k hk _=>h.block k hk⟩
structure OpOk (w w':World) (inv:Bool) (mx:Int) (M:MP) (t:TT) (T:List (List Nat)) (e:Ending):Prop where
 below:Below w.heap.size w w'
 ex:∃bt gp N L rv sv ps,e=.returned (.tuple #[.agg (seCells bt M.beg inv mx (.slice (some ⟨gp,0,none⟩) (256+t.rules.length) (256+t.rules.length))),.int .i64 0])∧SP w' bt gp (256+t.rules.length) N L inv M t rv sv T ps (256+t.rules.length)
theorem sopen_file {inv fold whole num:Bool} {mx x:Int} {p f:ByteArray} {r:Nat×PS} (h:PatOk p r) (w:World) (hm0:0≤mx) (hx:x≠0) (hf:∀w,Calls Tryz.prog 13 #[.string f] w fun e w'=>e=.returned (.tuple #[.agg ztext,.int .i64 x])∧Below w.heap.size w w'):
 Calls Tryz.prog 7 #[.agg #[.bool inv,.bool fold,.bool whole,.bool num,.int .i64 mx],.string p,.string f] w fun e w'=>e=.returned (.tuple #[.agg zSearch,.int .i64 x])∧Below w.heap.size w w':=by
 have hc:Hid (∀w,Calls _ _ _ w _):=fun w=>sread_ok h inv fold whole num mx w hm0
 have hfH:Hid (∀w,Calls _ _ _ w _):=hf
 have h0:Hid (OW w _ #[.bool inv,.bool fold,.bool whole,.bool num,.int .i64 mx]):=OW.begin w _
 clear h hf
 unfold zSearch at h0
 unfold ztext at hfH
 have hxb:(x != 0)=true:=by simp [hx]
 go_enter Tryz.func7,Tryz.ntmps7
 go_wp2_with fail
 refine (hc.out _).mono ?_
 rintro e w1 ⟨b1,b,ao,n,c,xs,hb,hn,rfl⟩
 have O1:Hid (OW w w1 _):=h0.out.more b1
 clear h0 hc hb hn b1
 go_wp2_with fail
 refine (hfH.out _).mono ?_
 rintro e w2 ⟨rfl,b2⟩
 have O2:Hid (OW w w2 _):=(O1.out.kept ((Kept.refl [] w1).alloc _)).more b2
 have R1:Blk w2 (w.heap.size+1) #[.pointer none,.int .u64 0,.bool false,.int .i64 0,.slice none 0 0] 34:=O2.out.r
 obtain ⟨g0,g1,g2,g3,g4,gl⟩:=all5 R1
 obtain ⟨f0,f1,f2,f3,f4⟩:=froz5 R1
 clear R1 b2 O1
 go_wp2
 have R2:Blk w2 (w.heap.size+1) #[.pointer none,.int .u64 0,.bool false,.int .i64 0,.slice none 0 0] 34:=O2.out.r
 have R3:=(res5 R2 (.pointer none) (.int .u64 0) (.bool false) (.int .i64 0) (.slice none 0 0)).alloc (.cells #[.int .i64 0,.int .i64 0,.slice none 0 0,.slice none 0 0,.int .i64 0,.int .i64 0,.int .i64 0,.int .i64 0] 61)
 obtain ⟨x0,x1,x2,x3,x4,_⟩:=all5 R3
 refine bodyPost_ret (v:=.tuple #[.agg zSearch,.int .i64 x]) (by simp [results,Tryz.results7,go_sem,zSearch,x0,x1,x2,x3,x4]) rfl ⟨rfl,?_⟩
 exact (below5 O2.out.b (by omega) _ _ _ _ _).alloc (by have:=O2.out.b.size;simpa using this) _
theorem sopen_ok {inv fold whole num:Bool} {mx:Int} {p f:ByteArray} {r:Nat×PS} {t:TT} {T:List (List Nat)} (h:PatOk p r) (w:World) (hm0:0≤mx) (hS:SText t T) (hf:∀w,Calls Tryz.prog 13 #[.string f] w fun e w'=>Below w.heap.size w w'∧∃rv sv,TVal w' w.heap.size t rv sv∧e=.returned (.tuple #[.agg (t.cells rv sv),.int .i64 0])):
 Calls Tryz.prog 7 #[.agg #[.bool inv,.bool fold,.bool whole,.bool num,.int .i64 mx],.string p,.string f] w fun e w'=>OpOk w w' inv mx (machOf r fold whole) t T e:=by
 have hc:Hid (∀w,Calls _ _ _ w _):=fun w=>sread_ok h inv fold whole num mx w hm0
 obtain ⟨rd1,rd2,rd3,rd4,rd5⟩:=all_ready p r h.small h.ev h.good h.size
 have hfH:Hid (∀w,Calls _ _ _ w _):=hf
 have hSH:Hid (SText t T):=hS
 have hrl:=hS.rlen
 have h0:Hid (OW w _ #[.bool inv,.bool fold,.bool whole,.bool num,.int .i64 mx]):=OW.begin w _
 clear h hf hS
 unfold zSearch at h0
 have hzm:=zeroV_mach
 obtain ⟨M,hM⟩:∃M,machOf r fold whole=M:=⟨_,rfl⟩
 rw [hM]
 have hMH:Hid (finP (buildP r.2.2 (lastQ r.2.2 r.2.2.length) fold whole)=M):=hM
 clear hM
 go_enter Tryz.func7,Tryz.ntmps7
 go_wp2_with fail
 refine (hc.out _).mono ?_
 rintro e w1 ⟨b1,b,ao,n,c,xs,hb,hn,rfl⟩
 have O1:Hid (OW w w1 _):=h0.out.more b1
 have hbuild:Hid (∀w',Kept [] w1 w'→Calls _ _ _ w' _):=fun w' k=>build_any r.2.2 xs (b+1) (.slice ao n c) (sizeAt r.2.2 r.1) fold whole w' (hn.nodesIn.kept k) rd1 rd2 rd3 rd4 rd5
 rw [hMH.out] at hbuild
 clear h0 hc hb hn b1 rd1 rd2 rd3 rd4 rd5
 generalize sizeAt r.2.2 r.1=SZ at *
 have P1:Hid (Blk (w1.alloc (.cells #[.slice ao n c,.int .i64 (SZ:Int)] 54)) w1.heap.size #[.slice ao n c,.int .i64 (SZ:Int)] 54):=Blk.new w1 _ _
 have O1a:Hid (OW w (w1.alloc (.cells #[.slice ao n c,.int .i64 (SZ:Int)] 54)) _):=O1.out.kept ((Kept.refl [] w1).alloc _)
 have K1a:Hid (Kept [] w1 (w1.alloc (.cells #[.slice ao n c,.int .i64 (SZ:Int)] 54))):=(Kept.refl [] w1).alloc _
 go_wp2_with fail
 refine (hfH.out _).mono ?_
 rintro e w2 ⟨b2,rv,sv,htv,rfl⟩
 have k2:=below_kept b2
 have P2:Hid (Blk w2 w1.heap.size _ _):=P1.out.kept k2 (by simp)
 have O2:Hid (OW w w2 _):=O1a.out.kept k2
 have K2:Hid (Kept [] w1 w2):=K1a.out.trans k2
 have hTR:Hid (TR (w2.alloc (.cells (t.cells rv sv) 61)) (w2.heap.size+1) w2.heap.size t rv sv):=
  ⟨Blk.new w2 _ _,row_stay (S:=[]) (own_low htv.rules (Nat.zero_le _)) ((Kept.refl [] w2).alloc _) (fun _ _=>by simp),row_stay (S:=[]) (own_low htv.start (Nat.zero_le _)) ((Kept.refl [] w2).alloc _) (fun _ _=>by simp),Nat.lt_succ_self _,fun g hg=>by have:=(htv.rules.lt g hg).2;omega,fun g hg=>by have:=(htv.start.lt g hg).2;omega⟩
 have k3:Hid (Kept [] w2 (w2.alloc (.cells (t.cells rv sv) 61))):=(Kept.refl [] w2).alloc _
 obtain ⟨ra,rn,rc,rfl⟩:=own_shape htv.rules
 obtain ⟨sa,sn,sc,rfl⟩:=own_shape htv.start
 have hbase:Hid (w.heap.size+1<w2.heap.size∧(∀g,(Value.slice ra rn rc).ownBlock=some g→w.heap.size+1<g)∧∀g,(Value.slice sa sn sc).ownBlock=some g→w.heap.size+1<g):=by
  have h1:=O1.out.lt
  have h2:=K2.out.size
  refine ⟨by omega,fun g hg=>?_,fun g hg=>?_⟩
  · have:=(htv.rules.lt g hg).1
    simp at this;omega
  · have:=(htv.start.lt g hg).1
    simp at this;omega
 clear P1 O1a K1a b2 k2 htv hfH O1
 obtain ⟨d0,d1,dl⟩:_∧_∧_:=(fun B:Blk w2 w1.heap.size #[.slice ao n c,.int .i64 (SZ:Int)] 54=>⟨B.cell 0,B.cell 1,B.lt⟩) P2.out
 have Ob:Blk w2 w.heap.size #[.bool inv,.bool fold,.bool whole,.bool num,.int .i64 mx] 23:=O2.out.o
 obtain ⟨o0,o1,o2,o3,o4,ol⟩:=all5 Ob
 have hne1:w1.heap.size≠w2.heap.size:=by omega
 have hne2:w.heap.size≠w2.heap.size:=by omega
 clear Ob
 unfold TT.cells at hTR k3 ⊢
 go_wp2_with fail
 refine (hbuild.out _ (K2.out.trans k3.out)).mono ?_
 rintro e w5 ⟨rfl,k5⟩
 have K5:Hid (Kept [] w2 w5):=k3.out.trans k5
 have O5:Hid (OW w w5 _):=O2.out.kept K5.out
 have T5:Hid (TR w5 _ _ _ _ _):=hTR.out.kept k5
 have hN5:Hid (w2.heap.size+1≤w5.heap.size):=T5.out.blk.lt
 have Ob:Blk w5 w.heap.size #[.bool inv,.bool fold,.bool whole,.bool num,.int .i64 mx] 23:=O5.out.o
 obtain ⟨p0,p1,p2,p3,p4,pl⟩:=all5 Ob
 clear Ob k3 hTR k5 hbuild K2
 go_wp2_with (
  with_reducible refine wpList_store_mach ?_ (.tmp 11) (.tmp 36) ?_ w5.heap.size ?_ {} M ?_ ?_ ?_
  · rfl
  · rfl
  · rfl
  · rfl
  · exact Blk.new w5 (mCells {}) 69
  intro w6 hb6 hk6 hs6
  have K6:Hid (Kept [] w5 w6):=((Kept.refl [] w5).alloc (.cells (mCells {}) 69)).into hk6 (Nat.le_refl _)
  have O6:Hid (OW w w6 _):=O5.out.kept K6.out
  have Ob:Blk w6 w.heap.size #[.bool inv,.bool fold,.bool whole,.bool num,.int .i64 mx] 23:=O6.out.o
  obtain ⟨q0,q1,q2,q3,q4,ql⟩:=all5 Ob
  have M6:Hid (MIn w6 w5.heap.size M):=hb6
  clear Ob hk6 hs6 hb6)
 have T6:Hid (TR w6 _ _ _ _ _):=T5.out.kept K6.out
 have hN6:w2.heap.size+1≤w6.heap.size:=Nat.le_trans hN5.out K6.out.size
 refine (new_any T6.out hN6 hSH.out.sound hrl M6.out hN5.out inv fold whole num mx).mono ?_
 rintro e w7 ⟨k7,gp,ps,rfl,hgp,hsp⟩
 have O7:Hid (OW w w7 _):=O6.out.kept k7
 have R7:Blk w7 (w.heap.size+1) #[.pointer none,.int .u64 0,.bool false,.int .i64 0,.slice none 0 0] 34:=O7.out.r
 obtain ⟨g0,g1,g2,g3,g4,gl⟩:=all5 R7
 obtain ⟨f0,f1,f2,f3,f4⟩:=froz5 R7
 have hspH:Hid (SP _ _ _ _ _ _ _ _ _ _ _ _ _ _):=hsp
 clear R7 hsp k7 hgp
 unfold seCells
 go_wp2
 have R8:Blk w7 (w.heap.size+1) #[.pointer none,.int .u64 0,.bool false,.int .i64 0,.slice none 0 0] 34:=O7.out.r
 have R9:=res5 R8 (.pointer (some ⟨w2.heap.size,0,none⟩)) (UV M.beg) (.bool inv) (.int .i64 mx) (.slice (some ⟨gp,0,none⟩) (256+t.rules.length) (256+t.rules.length))
 obtain ⟨x0,x1,x2,x3,x4,_⟩:=all5 R9
 refine bodyPost_ret (v:=.tuple #[.agg (seCells w2.heap.size M.beg inv mx (.slice (some ⟨gp,0,none⟩) (256+t.rules.length) (256+t.rules.length))),.int .i64 0]) (by simp [results,Tryz.results7,go_sem,seCells,x0,x1,x2,x3,x4]) rfl ⟨below5 O7.out.b (by omega) _ _ _ _ _,w2.heap.size,gp,w2.heap.size+1,w6.heap.size,.slice ra rn rc,.slice sa sn sc,ps,rfl,?_⟩
 obtain ⟨hb1,hb2,hb3⟩:=hbase.out
 have q:Kept [w.heap.size+1] w7 (((((w7.setCell ⟨w.heap.size+1,0,none⟩ (.pointer (some ⟨w2.heap.size,0,none⟩))).setCell ⟨w.heap.size+1,1,none⟩ (UV M.beg)).setCell ⟨w.heap.size+1,2,none⟩ (.bool inv)).setCell ⟨w.heap.size+1,3,none⟩ (.int .i64 mx)).setCell ⟨w.heap.size+1,4,none⟩ (.slice (some ⟨gp,0,none⟩) (256+t.rules.length) (256+t.rules.length))):=
  (((((Kept.refl [w.heap.size+1] w7).setCell (Or.inl (by simp)) _).setCell (Or.inl (by simp)) _).setCell (Or.inl (by simp)) _).setCell (Or.inl (by simp)) _).setCell (Or.inl (by simp)) _
 have tr:=hspH.out.tr
 refine hspH.out.low_keep q (fun x hx=>by simp at hx;omega) ⟨tr.blk.kept q (by simp;omega),row_stay tr.rules q (fun g hg=>?_),row_stay tr.start q (fun g hg=>?_),tr.low,tr.rlow,tr.slow⟩
 · have:=hb2 g hg;simp;omega
 · have:=hb3 g hg;simp;omega
end Go.Proofs.YtgifhgnccmnbiabGreat
