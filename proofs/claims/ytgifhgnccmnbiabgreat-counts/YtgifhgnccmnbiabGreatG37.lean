/- Package search: New, walked: all pieces are found out. -/
import Derived.Test.YtgifhgnccmnbiabGreatG36
import Derived.Test.YtgifhgnccmnbiabGreatG35
import Derived.Test.YtgifhgnccmnbiabGreatG33
set_option linter.unusedVariables false
set_option linter.unusedSimpArgs false
set_option maxHeartbeats 4000000
set_option maxRecDepth 100000
namespace Go.Proofs.YtgifhgnccmnbiabGreat
open Go.RowKit Go.IntWalk
theorem infoSPiece:(Tryz.prog.info? 119).map (fun i=>(i.zero,i.size,i.bytes))=some (some (.agg z8),8,64):=by kernel_rfl
theorem made_z8 (n:Nat):madeCells z8 (n*8)=rowPs (fun _=>({},none)) n:=by
 unfold madeCells rowPs cellsF
 apply Array.ext
 · simp;omega
 · intro j h1 h2
   have hj:j % 8=0∨j % 8=1∨j % 8=2∨j % 8=3∨j % 8=4∨j % 8=5∨j % 8=6∨j % 8=7:=by omega
   simp only [List.getElem_toArray,List.getElem_map,List.getElem_range,Array.getElem_map,Array.getElem_range]
   unfold rowP
   have e:z8.size=8:=rfl
   rw [e]
   rcases hj with hj | hj | hj | hj | hj | hj | hj | hj <;> rw [hj] <;> rfl
theorem made_blk8 {w:World} {base g n:Nat} {e:TypeId} (h:w.ownsRow base e 8 (.slice (some ⟨g,0,none⟩) n n) n (madeCells z8 (n*8)).toList):Blk w g (rowPs (fun _=>({},none)) n) e:=by
 rcases h.2 with ⟨h1,_⟩ | ⟨g',cap,cur,h1,h2,h3,h4,h5,h6,h7⟩
 · simp at h1
 · simp only [Value.slice.injEq,Option.some.injEq,Addr.mk.injEq,and_true,true_and] at h1
   obtain ⟨rfl,rfl⟩:=h1
   have hc:cur=rowPs (fun _=>({},none)) n:=by
    rw [←made_z8]
    apply Array.ext'
    rw [←h7,List.take_of_length_le]
    rw [Array.length_toList,h6];exact Nat.le_refl _
   rw [←hc]
   exact h3
structure NI (w wr:World) (bt n N:Nat) (inv:Bool) (mx:Int) (M:MP) (t:TT) (rv sv:Value) (T:List (List Nat)) (ps:PcF) (i:Nat):Prop where
 k:Kept [] w wr
 r:Blk wr (w.heap.size+1) #[.pointer none,.int .u64 0,.bool false,.int .i64 0,.slice none 0 0] 34
 si:SI wr (w.heap.size+1+1) bt (w.heap.size+1+1+1) n N w.heap.size M.beg inv mx M t rv sv T ps i
structure NewOut (w w':World) (bt n N:Nat) (inv:Bool) (mx:Int) (M:MP) (t:TT) (rv sv:Value) (T:List (List Nat)) (e:Ending):Prop where
 k:Kept [] w w'
 ex:∃gp ps,e=.returned (.agg (seCells bt M.beg inv mx (.slice (some ⟨gp,0,none⟩) n n)))∧w.heap.size≤gp∧SP w' bt gp n N w.heap.size inv M t rv sv T ps n
theorem NI.kept {w wr wq:World} {bt n N:Nat} {inv:Bool} {mx:Int} {M:MP} {t:TT} {rv sv:Value} {T:List (List Nat)} {ps:PcF} {i:Nat} (h:NI w wr bt n N inv mx M t rv sv T ps i) (q:Kept [] wr wq):NI w wq bt n N inv mx M t rv sv T ps i:=
 ⟨h.k.trans q,h.r.kept q (by simp),h.si.kept q⟩
theorem NI.put {w wr:World} {bt n N:Nat} {inv:Bool} {mx:Int} {M:MP} {t:TT} {rv sv:Value} {T:List (List Nat)} {ps:PcF} {i:Nat} (h:NI w wr bt n N inv mx M t rv sv T ps i) (p:PCE) (a:Option Addr) (hp:Real T i→PGood M inv (symT T i) p∧PTab wr p a) (ha:∀A,a=some A→(N≤A.block∧A.block<w.heap.size)∨w.heap.size+1+1+1<A.block):
 NI w (put8 wr (w.heap.size+1+1+1) (i*8) p a) bt n N inv mx M t rv sv T (updP ps i (p,a)) (i+1):=by
 have q:=kept_put8 wr (w.heap.size+1+1+1) (i*8) p a
 exact ⟨h.k.into q (by omega),h.r.kept q (by simp),⟨h.si.s.kept q (by simp),h.si.sp.put p a hp ha⟩⟩
theorem new_any {w:World} {bt gm N:Nat} {M:MP} {t:TT} {rv sv:Value} {T:List (List Nat)} (tr:TR w N bt t rv sv) (hN:N≤w.heap.size) (hS:Sound t.rules T) (hR:t.rules.length≤9000) (hM:MIn w gm M) (hgN:N≤gm) (inv fold whole num:Bool) (mx:Int):
 Calls Tryz.prog 15 #[.pointer (some ⟨bt,0,none⟩),.pointer (some ⟨gm,0,none⟩),.agg #[.bool inv,.bool fold,.bool whole,.bool num,.int .i64 mx]] w fun e w'=>NewOut w w' bt (256+t.rules.length) N inv mx M t rv sv T e:=by
 obtain ⟨i0,hi0,hz0,hz1,hz2⟩:=info_parts infoSPiece
 have m0:=hM.beg
 have lm:=Blk.lt hM
 have lb:=tr.blk.lt
 obtain ⟨ra,rk,rc,rfl⟩:=own_shape tr.rules
 have hrk:rk=t.rules.length:=by
  rcases tr.rules.2 with ⟨h1,h2⟩ | ⟨g,cap,_,h1,_⟩
  · simp at h1;omega
  · simp at h1;omega
 subst hrk
 have c2:w.cell? ⟨bt,2,none⟩=some (.slice ra t.rules.length rc):=tr.cell 2
 have hby:Hid (∀w' (c:Nat),Kept [] w w'→c<256→Calls _ _ _ w' _):=fun w' c k hc=>byte_any (Blk.kept hM k (by simp)) c hc
 have hru:Hid (∀wr ps i,NI w wr bt (256+t.rules.length) N inv mx M t (.slice ra t.rules.length rc) sv T ps i→256≤i→i<256+t.rules.length→Calls _ _ _ wr _):=fun wr ps i h h1 h2=>ruleP_any h.si hS hR h1 h2
 have hst:Hid (∀w1,w1.ownsRow (w.heap.size+1+1+1) 119 8 (.slice (some ⟨w.heap.size+1+1+1,0,none⟩) (256+t.rules.length) (256+t.rules.length)) (256+t.rules.length) (madeCells z8 ((256+t.rules.length)*8)).toList→∀W1,Kept [] w W1→Kept [] W1 w1→Blk W1 (w.heap.size+1) #[.pointer none,.int .u64 0,.bool false,.int .i64 0,.slice none 0 0] 34→Blk W1 (w.heap.size+1+1) #[.pointer (some ⟨bt,0,none⟩),UV M.beg,.bool inv,.int .i64 mx,.slice none 0 0] 34 →
  NI w (w1.setCell ⟨w.heap.size+1+1,4,none⟩ (.slice (some ⟨w.heap.size+1+1+1,0,none⟩) (256+t.rules.length) (256+t.rules.length))) bt (256+t.rules.length) N inv mx M t (.slice ra t.rules.length rc) sv T (fun _=>({},none)) 0):=fun w1 hown W1 k1 k2 b1 b2=>by
  have hp:=made_blk8 hown
  have k12:=k1.trans k2
  have b2':=(b2.kept k2 (by simp)).set 4 (.slice (some ⟨w.heap.size+1+1+1,0,none⟩) (256+t.rules.length) (256+t.rules.length))
  have q:Kept [w.heap.size+1+1] w1 (w1.setCell ⟨w.heap.size+1+1,4,none⟩ (.slice (some ⟨w.heap.size+1+1+1,0,none⟩) (256+t.rules.length) (256+t.rules.length))):=(Kept.refl _ _).setCell (Or.inl (by simp)) _
  refine ⟨k12.into q (by omega),(b1.kept k2 (by simp)).kept q (by simp),b2',hp.kept q (by simp),?_,rfl,⟨hN,by omega⟩,fun j hj=>by omega⟩
  exact (tr.kept k12).under (m:=w.heap.size) (q.below k12.size (by simp;omega)) hN
 have mb:256+t.rules.length≤maxLen:=by unfold maxLen;omega
 have mb2:Hid ((256:Int)+(t.rules.length:Int)=((256+t.rules.length:Nat):Int)):=by show _=_;omega
 obtain ⟨RN,hRN⟩:∃RN,256+t.rules.length=RN:=⟨_,rfl⟩
 rw [hRN] at hru hst mb mb2 ⊢
 have hRNb:RN≤9256:=by omega
 have hRNH:Hid (256+t.rules.length=RN):=hRN
 clear hRN
 have hg3:bt≠w.heap.size:=by omega
 have hg4:bt≠w.heap.size+1:=by omega
 have hg5:bt≠w.heap.size+1+1:=by omega
 have hg6:gm≠w.heap.size:=by omega
 have hg7:gm≠w.heap.size+1:=by omega
 have hg8:gm≠w.heap.size+1+1:=by omega
 have hg9:gm≠w.heap.size+2:=by omega
 have hg10:bt≠w.heap.size+2:=by omega
 have hl1:gm<w.heap.size+1:=by omega
 have hl2:gm<w.heap.size+1+1:=by omega
 have hl3:bt<w.heap.size+1:=by omega
 have hl4:bt<w.heap.size+1+1:=by omega
 have hMH:Hid (MIn w gm M):=hM
 clear hM tr hS
 generalize hBG:M.beg=BG at *
 have hBGH:Hid (M.beg=BG):=hBG
 clear hBG
 go_enter Tryz.func15,Tryz.ntmps15
 go_wp2_with fail
 go_region
 all_goals
  obtain ⟨W1,hW1⟩:∃W1,W1=(((w.alloc (.cells #[.bool inv,.bool fold,.bool whole,.bool num,.int .i64 mx] 23)).alloc (.cells #[.pointer none,.int .u64 0,.bool false,.int .i64 0,.slice none 0 0] 34)).alloc (.cells #[.pointer (some ⟨bt,0,none⟩),UV BG,.bool inv,.int .i64 mx,.slice none 0 0] 34)).drew:=⟨_,rfl⟩
  have K1:Hid (Kept [] w W1):=by show Kept _ _ _;rw [hW1];exact (((((Kept.refl [] w).alloc _).alloc _).alloc _).drew)
  have B1:Hid (Blk W1 (w.heap.size+1) #[.pointer none,.int .u64 0,.bool false,.int .i64 0,.slice none 0 0] 34):=by show Blk _ _ _ _;rw [hW1];exact ((Blk.new1 w _ _ _).alloc _).drew
  have B2:Hid (Blk W1 (w.heap.size+1+1) #[.pointer (some ⟨bt,0,none⟩),UV BG,.bool inv,.int .i64 mx,.slice none 0 0] 34):=by show Blk _ _ _ _;rw [hW1];exact (Blk.new2 w _ _ _ _).drew
  have hsz:W1.heap.size=w.heap.size+1+1+1:=by rw [hW1];simp
  rw [←hW1]
  clear hW1
  have c2':=(K1.out.cell lb 2).trans c2
  have hszH:Hid (W1.heap.size=w.heap.size+1+1+1):=hsz
  have hgsl:w.heap.size+1+1<W1.heap.size:=B2.out.lt
  clear c2 m0 hsz
  go_wp2_with (rw [mb2.out];refine wpList_make_full W1 rfl (.tmp 24) (.tmp 24) 32 rfl (w.heap.size+1+1+1) 119 i0 _ 8 Tryz.underlying32 hi0 hz0 hz1 .i64 .i64 (RN:Int) (RN:Int) RN rfl rfl rfl rfl (by rw [hz2];omega) mb (by rw [hszH.out];exact Nat.le_refl _) ?_;intro w1 hown hg;rw [hszH.out] at hown ⊢;have kq:Hid (Kept [] W1 w1):=⟨hg.os,hg.tape,hg.output,hg.size,fun k hk _=>hg.block k hk (by simp)⟩;have b2:=B2.out.kept kq.out (by simp);have q4:w1.cell? ⟨w.heap.size+1+1,4,none⟩=some (.slice none 0 0):=b2.cell 4;have z4:=b2.frozen 4;have lz:=b2.lt;clear b2;have hownH:Hid (World.ownsRow _ _ _ _ _ _ _):=hown;clear hown hg)
  have h0:Hid (NI w _ _ _ _ _ _ _ _ _ _ _ _ 0):=hst.out w1 hownH.out W1 K1.out kq.out B1.out B2.out
  clear hownH kq K1 B1 B2 hst c2' q4 z4 lz hgsl hszH mb mb2
  go_loopw [8] (fun iv wr=>∃(i:Nat) (ps:PcF),iv=.int .i64 (i:Int)∧i≤RN∧NI w wr bt RN N inv mx M t (.slice ra t.rules.length rc) sv T ps i) (fun iv _=>((RN:Int)-intOf iv).toNat)
  case atStart=>exact ⟨0,_,rfl,Nat.zero_le _,h0.out⟩
  case round=>
   clear h0
   obtain ⟨i,ps,rfl,hi,hI⟩:=hrel
   have q4:wr.cell? ⟨w.heap.size+1+1,4,none⟩=some (.slice (some ⟨w.heap.size+1+1+1,0,none⟩) RN RN):=hI.si.s.cell 4
   have hIH:Hid (NI _ _ _ _ _ _ _ _ _ _ _ _ _ _):=hI
   have lr:=hI.k.size
   have lgp:=hI.si.sp.p.lt
   clear hI
   by_cases hlt:(i:Int)<(RN:Int)
   · have hin:i<RN:=by omega
     have hmul:i*8+7<8*RN:=by omega
     have hrow:Hid (∀w5,Kept [] wr w5→∀j,j<8→∃u,w5.cell? ⟨w.heap.size+1+1+1,i*8+j,none⟩=some u):=fun w5 k j hj=>by
      have hb:=hIH.out.si.sp.p.kept k (by simp)
      have h8:j<(pcCells (ps i).1 (ps i).2).size:=hj
      exact ⟨_,by rw [hb.cell,rowPs_get ps hin hj,Array.getElem?_eq_getElem h8]⟩
     have hfrz:Hid (∀w5,Kept [] wr w5→∀j,w5.frozen? ⟨w.heap.size+1+1+1,j,none⟩=false):=fun w5 k j=>(hIH.out.si.sp.p.kept k (by simp)).frozen j
     have hsl:Hid (∀w5,Kept [] wr w5→w5.cell? ⟨w.heap.size+1+1,4,none⟩=some (.slice (some ⟨w.heap.size+1+1+1,0,none⟩) RN RN)):=fun w5 k=>(hIH.out.si.s.kept k (by simp)).cell 4
     by_cases hb:(i:Int)<256
     · have hib:i<256:=by omega
       have hput:Hid (∀w5 p a,Kept [] wr w5→p=bytePC M i→PTab w5 p a→(∀A,a=some A→A.block∈[gm]∨wr.heap.size≤A.block)→NI w (put8 w5 (w.heap.size+1+1+1) (i*8) p a) bt RN N inv mx M t (.slice ra t.rules.length rc) sv T (updP ps i (p,a)) (i+1)):=fun w5 p a k e hT hA=>by
        refine (hIH.out.kept k).put p a (fun _=>⟨?_,hT⟩) (fun A hx=>?_)
        · have:symT T i=[i]:=if_pos hib
          rw [this,e];exact bytePC_good M inv i
        · rcases hA A hx with h | h
          · simp at h;omega
          · omega
       have hcall:Hid (∀w',Kept [] wr w'→Calls _ _ _ w' _):=fun w' k=>hby.out w' i (hIH.out.k.trans k) hib
       clear hby hru
       go_wp2_with fail
       go_region_law (go_simp;go_at_call 36;refine (hcall.out _ (by first | exact (Kept.refl [] _).drew | exact Kept.refl _ _)).mono ?_;rintro _ w5 ⟨k5,a,rfl,hT,hA⟩;obtain ⟨p,hp⟩:∃p,Hid (p=bytePC M i):=⟨_,rfl⟩;rw [←hp.out] at hT ⊢;have K5:Hid (Kept [] wr w5):=Kept.trans (by first | exact (Kept.refl [] _).drew | exact Kept.refl _ _) k5;have hTH:Hid (PTab _ _ _):=hT;have hAH:Hid (∀A,a=some A→A.block∈[gm]∨wr.heap.size≤A.block):=hA;clear hT hA k5;unfold pcCells;have q5:=hsl.out _ K5.out;obtain ⟨u0,g0'⟩:=hrow.out _ K5.out 0 (by omega);have g0:w5.cell? ⟨w.heap.size+1+1+1,i*8,none⟩=some u0:=g0';clear g0';obtain ⟨u1,g1⟩:=hrow.out _ K5.out 1 (by omega);obtain ⟨u2,g2⟩:=hrow.out _ K5.out 2 (by omega);obtain ⟨u3,g3⟩:=hrow.out _ K5.out 3 (by omega);obtain ⟨u4,g4⟩:=hrow.out _ K5.out 4 (by omega);obtain ⟨u5,g5⟩:=hrow.out _ K5.out 5 (by omega);obtain ⟨u6,g6⟩:=hrow.out _ K5.out 6 (by omega);obtain ⟨u7,g7⟩:=hrow.out _ K5.out 7 (by omega);have f0:=hfrz.out _ K5.out (i*8);have f1:=hfrz.out _ K5.out (i*8+1);have f2:=hfrz.out _ K5.out (i*8+2);have f3:=hfrz.out _ K5.out (i*8+3);have f4:=hfrz.out _ K5.out (i*8+4);have f5:=hfrz.out _ K5.out (i*8+5);have f6:=hfrz.out _ K5.out (i*8+6);have f7:=hfrz.out _ K5.out (i*8+7))
       all_goals
        go_wp2
        refine ⟨⟨i+1,_,by go_num,by omega,hput.out _ p a K5.out hp.out hTH.out hAH.out⟩,?_⟩
        simp only [intOf];omega
     · have hput:Hid (∀w5 p a,Kept [] wr w5→(Real T i→PGood M inv (symT T i) p∧PTab w5 p a)→(∀A,a=some A→wr.heap.size≤A.block)→NI w (put8 w5 (w.heap.size+1+1+1) (i*8) p a) bt RN N inv mx M t (.slice ra t.rules.length rc) sv T (updP ps i (p,a)) (i+1)):=fun w5 p a k hT hA=>by
        refine (hIH.out.kept k).put p a hT (fun A hx=>?_)
        have:=hA A hx
        omega
       have hcall:Hid (∀w',Kept [] wr w'→Calls _ _ _ w' _):=fun w' k=>hru.out w' ps i (hIH.out.kept k) (by omega) hin
       clear hby hru
       go_wp2_with fail
       go_region_law (go_simp;go_at_call 37;refine (hcall.out _ (by first | exact (Kept.refl [] _).drew | exact Kept.refl _ _)).mono ?_;rintro _ w5 ⟨k5,p,a,rfl,hT,hA⟩;have K5:Hid (Kept [] wr w5):=Kept.trans (by first | exact (Kept.refl [] _).drew | exact Kept.refl _ _) k5;have hTH:Hid (Real T i→PGood M inv (symT T i) p∧PTab w5 p a):=hT;have hAH:Hid (∀A,a=some A→_≤A.block):=hA;clear hT hA k5;unfold pcCells;have q5:=hsl.out _ K5.out;obtain ⟨u0,g0'⟩:=hrow.out _ K5.out 0 (by omega);have g0:w5.cell? ⟨w.heap.size+1+1+1,i*8,none⟩=some u0:=g0';clear g0';obtain ⟨u1,g1⟩:=hrow.out _ K5.out 1 (by omega);obtain ⟨u2,g2⟩:=hrow.out _ K5.out 2 (by omega);obtain ⟨u3,g3⟩:=hrow.out _ K5.out 3 (by omega);obtain ⟨u4,g4⟩:=hrow.out _ K5.out 4 (by omega);obtain ⟨u5,g5⟩:=hrow.out _ K5.out 5 (by omega);obtain ⟨u6,g6⟩:=hrow.out _ K5.out 6 (by omega);obtain ⟨u7,g7⟩:=hrow.out _ K5.out 7 (by omega);have f0:=hfrz.out _ K5.out (i*8);have f1:=hfrz.out _ K5.out (i*8+1);have f2:=hfrz.out _ K5.out (i*8+2);have f3:=hfrz.out _ K5.out (i*8+3);have f4:=hfrz.out _ K5.out (i*8+4);have f5:=hfrz.out _ K5.out (i*8+5);have f6:=hfrz.out _ K5.out (i*8+6);have f7:=hfrz.out _ K5.out (i*8+7))
       all_goals
        go_wp2
        refine ⟨⟨i+1,_,by go_num,by omega,hput.out _ p a K5.out hTH.out hAH.out⟩,?_⟩
        simp only [intOf];omega
   · have hie:i=RN:=by omega
     subst hie
     have hfin:Hid (∀v0 v1 v2 v3 v4,NewOut w (((((wr.setCell ⟨w.heap.size+1,0,none⟩ v0).setCell ⟨w.heap.size+1,1,none⟩ v1).setCell ⟨w.heap.size+1,2,none⟩ v2).setCell ⟨w.heap.size+1,3,none⟩ v3).setCell ⟨w.heap.size+1,4,none⟩ v4) bt i N inv mx M t (.slice ra t.rules.length rc) sv T (.returned (.agg (seCells bt M.beg inv mx (.slice (some ⟨w.heap.size+1+1+1,0,none⟩) i i))))):=fun v0 v1 v2 v3 v4=>by
      have q:Kept [w.heap.size+1] wr (((((wr.setCell ⟨w.heap.size+1,0,none⟩ v0).setCell ⟨w.heap.size+1,1,none⟩ v1).setCell ⟨w.heap.size+1,2,none⟩ v2).setCell ⟨w.heap.size+1,3,none⟩ v3).setCell ⟨w.heap.size+1,4,none⟩ v4):=
       (((((Kept.refl [w.heap.size+1] wr).setCell (Or.inl (by simp)) _).setCell (Or.inl (by simp)) _).setCell (Or.inl (by simp)) _).setCell (Or.inl (by simp)) _).setCell (Or.inl (by simp)) _
      exact ⟨hIH.out.k.into q (by omega),_,ps,rfl,by omega,hIH.out.si.sp.keep q (fun x hx=>by simp at hx;omega)⟩
     have hres:Hid (∀v0 v1 v2 v3 v4,Blk (((((wr.setCell ⟨w.heap.size+1,0,none⟩ v0).setCell ⟨w.heap.size+1,1,none⟩ v1).setCell ⟨w.heap.size+1,2,none⟩ v2).setCell ⟨w.heap.size+1,3,none⟩ v3).setCell ⟨w.heap.size+1,4,none⟩ v4) (w.heap.size+1) #[v0,v1,v2,v3,v4] 34):=fun v0 v1 v2 v3 v4=>by
      have h0:Blk _ _ #[v0,.int .u64 0,.bool false,.int .i64 0,.slice none 0 0] _:=hIH.out.r.set 0 v0
      have h1:Blk _ _ #[v0,v1,.bool false,.int .i64 0,.slice none 0 0] _:=h0.set 1 v1
      have h2:Blk _ _ #[v0,v1,v2,.int .i64 0,.slice none 0 0] _:=h1.set 2 v2
      have h3:Blk _ _ #[v0,v1,v2,v3,.slice none 0 0] _:=h2.set 3 v3
      have h4:Blk _ _ #[v0,v1,v2,v3,v4] _:=h3.set 4 v4
      exact h4
     have hrb:=hIH.out.r
     have hsb:=hIH.out.si.s
     have y0:wr.cell? ⟨w.heap.size+1,0,none⟩=some (.pointer none):=hrb.cell 0
     have y1:wr.cell? ⟨w.heap.size+1,1,none⟩=some (.int .u64 0):=hrb.cell 1
     have y2:wr.cell? ⟨w.heap.size+1,2,none⟩=some (.bool false):=hrb.cell 2
     have y3:wr.cell? ⟨w.heap.size+1,3,none⟩=some (.int .i64 0):=hrb.cell 3
     have y4:wr.cell? ⟨w.heap.size+1,4,none⟩=some (.slice none 0 0):=hrb.cell 4
     have e0:=hrb.frozen 0
     have e1:=hrb.frozen 1
     have e2:=hrb.frozen 2
     have e3:=hrb.frozen 3
     have e4:=hrb.frozen 4
     have s0:wr.cell? ⟨w.heap.size+1+1,0,none⟩=some (.pointer (some ⟨bt,0,none⟩)):=hsb.cell 0
     have s1:wr.cell? ⟨w.heap.size+1+1,1,none⟩=some (UV M.beg):=hsb.cell 1
     have s2:wr.cell? ⟨w.heap.size+1+1,2,none⟩=some (.bool inv):=hsb.cell 2
     have s3:wr.cell? ⟨w.heap.size+1+1,3,none⟩=some (.int .i64 mx):=hsb.cell 3
     have ly:=hrb.lt
     clear hrb hsb hru hby
     go_wp2
     obtain ⟨x0,x1,x2,x3,x4⟩:_∧_∧_∧_∧_:=(fun b=>⟨b.cell 0,b.cell 1,b.cell 2,b.cell 3,b.cell 4⟩) (hres.out (.pointer (some ⟨bt,0,none⟩)) (UV M.beg) (.bool inv) (.int .i64 mx) (.slice (some ⟨w.heap.size+1+1+1,0,none⟩) i i))
     refine bodyPost_ret (v:=.agg (seCells bt M.beg inv mx (.slice (some ⟨w.heap.size+1+1+1,0,none⟩) i i))) (by simp [results,Tryz.results15,go_sem,seCells,x0,x1,x2,x3,x4]) rfl (hfin.out _ _ _ _ _)
def plCells (h:PLC):Array Value:=#[.int .i64 (h.pos:Int),.int .i64 (h.beg:Int),.int .i64 (h.lines:Int),UV h.set]
structure LW (w x:World) (c:Array Value):Prop where
 k:Kept [] w x
 r:Blk x (w.heap.size+1) #[.int .i64 0,.int .i64 0,.int .i64 0,.int .u64 0] 75
 c:Blk x (w.heap.size+1+1) c 75
theorem LW.kept {w x y:World} {c:Array Value} (h:LW w x c) (k:Kept [] x y):LW w y c:=⟨h.k.trans k,h.r.kept k (by simp),h.c.kept k (by simp)⟩
theorem LW.set {w x:World} {c:Array Value} (h:LW w x c) (j:Nat) (v:Value):LW w (x.setCell ⟨w.heap.size+1+1,j,none⟩ v) (c.setIfInBounds j v):=
 ⟨h.k.setCell (Or.inr (by simp;omega)) _,h.r.other _ _ (by omega),h.c.set j v⟩
theorem all4 {w:World} {g:Nat} {c0 c1 c2 c3:Value} {t:TypeId} (h:Blk w g #[c0,c1,c2,c3] t):
 w.cell? ⟨g,0,none⟩=some c0∧w.cell? ⟨g,1,none⟩=some c1∧w.cell? ⟨g,2,none⟩=some c2∧w.cell? ⟨g,3,none⟩=some c3∧g<w.heap.size:=
 ⟨h.cell 0,h.cell 1,h.cell 2,h.cell 3,h.lt⟩
theorem froz4 {w:World} {g:Nat} {cs:Array Value} {t:TypeId} (h:Blk w g cs t):
 w.frozen? ⟨g,0,none⟩=false∧w.frozen? ⟨g,1,none⟩=false∧w.frozen? ⟨g,2,none⟩=false∧w.frozen? ⟨g,3,none⟩=false:=
 ⟨h.frozen 0,h.frozen 1,h.frozen 2,h.frozen 3⟩
theorem res4 {w:World} {g:Nat} {c0 c1 c2 c3:Value} {t:TypeId} (h:Blk w g #[c0,c1,c2,c3] t) (v0 v1 v2 v3:Value):
 Blk ((((w.setCell ⟨g,0,none⟩ v0).setCell ⟨g,1,none⟩ v1).setCell ⟨g,2,none⟩ v2).setCell ⟨g,3,none⟩ v3) g #[v0,v1,v2,v3] t:=by
 have h0:Blk _ g #[v0,c1,c2,c3] t:=h.set 0 v0
 have h1:Blk _ g #[v0,v1,c2,c3] t:=h0.set 1 v1
 have h2:Blk _ g #[v0,v1,v2,c3] t:=h1.set 2 v2
 have h3:Blk _ g #[v0,v1,v2,v3] t:=h2.set 3 v3
 exact h3
theorem LW.done {w x:World} {v0 v1 v2 v3:Value} (h:LW w x #[v0,v1,v2,v3]):
 Kept [] w ((((x.setCell ⟨w.heap.size+1,0,none⟩ v0).setCell ⟨w.heap.size+1,1,none⟩ v1).setCell ⟨w.heap.size+1,2,none⟩ v2).setCell ⟨w.heap.size+1,3,none⟩ v3) ∧
 Blk ((((x.setCell ⟨w.heap.size+1,0,none⟩ v0).setCell ⟨w.heap.size+1,1,none⟩ v1).setCell ⟨w.heap.size+1,2,none⟩ v2).setCell ⟨w.heap.size+1,3,none⟩ v3) (w.heap.size+1) #[v0,v1,v2,v3] 75:=
 ⟨(((h.k.setCell (Or.inr (by simp)) _).setCell (Or.inr (by simp)) _).setCell (Or.inr (by simp)) _).setCell (Or.inr (by simp)) _,res4 h.r _ _ _ _⟩
theorem behindC_any {w:World} {g o:Nat} {p:PCE} {a:Option Addr} (hp:PAt w g o p a) (h:PLC) (htl:p.nl≠0→p.tail≤p.len) (h1:h.pos≤1099511627776) (h2:h.beg≤1099511627776) (h3:h.lines≤1099511627776):
 Calls Tryz.prog 18 #[.agg #[.int .i64 (h.pos:Int),.int .i64 (h.beg:Int),.int .i64 (h.lines:Int),UV h.set],.pointer (some ⟨g,o,none⟩)] w fun e w'=>e=.returned (.agg (plCells (behindC h p)))∧Kept [] w w':=by
 have p0:=hp.c0
 have p1:=hp.c1
 have b0:=hp.bd.len
 have b1:=hp.bd.nl
 have lg:=hp.lt
 obtain ⟨HP,HB,HL,HS⟩:=h
 simp only [] at h1 h2 h3 ⊢
 by_cases hn:p.nl=0
 · obtain ⟨G,O,rfl,tT,lT⟩:=hp.tab hn
   have p2:=hp.c2
   have p3:=hp.c3
   have e:Hid (behindC ⟨HP,HB,HL,HS⟩ p=⟨HP+p.len,HB,HL,fromP (tabM p.nx) p.tk HS⟩):=by show behindC _ _=_;unfold behindC;rw [if_pos hn,hn];rfl
   have hfr:Hid (∀w',Kept [] w w'→Calls _ _ _ w' _):=fun w' k=>from_any (tabM p.nx) G O p.tk HS w' (tT.kept k lT)
   have q1:w.cell? ⟨g,o+1,none⟩=some (.int .i64 0):=by rw [p1,hn];rfl
   clear p1
   clear hn hp tT
   generalize fromP (tabM p.nx) p.tk HS=FS at *
   generalize p.len=PL at *
   generalize p.tk=TK at *
   have hg1:g<w.heap.size+1:=by omega
   have hg2:g<w.heap.size+1+1:=by omega
   have hg3:g≠w.heap.size:=by omega
   have hg4:g≠w.heap.size+1:=by omega
   have hg5:g≠w.heap.size+1+1:=by omega
   have hg6:g≠w.heap.size+2:=by omega
   go_enter Tryz.func18,Tryz.ntmps18
   go_wp2_with fail
   go_region
   all_goals
    obtain ⟨W1,hW1⟩:∃W1,W1=(((w.alloc (.cells #[.int .i64 (HP:Int),.int .i64 (HB:Int),.int .i64 (HL:Int),UV HS] 75)).alloc (.cells #[.int .i64 0,.int .i64 0,.int .i64 0,.int .u64 0] 75)).alloc (.cells #[.int .i64 ((HP:Int)+(PL:Int)),.int .i64 (HB:Int),.int .i64 (HL:Int),.int .u64 0] 75)).drew:=⟨_,rfl⟩
    have J1:Hid (LW w W1 #[.int .i64 ((HP:Int)+(PL:Int)),.int .i64 (HB:Int),.int .i64 (HL:Int),.int .u64 0]):=by
     show LW _ _ _;rw [hW1]
     exact ⟨((((Kept.refl [] w).alloc _).alloc _).alloc _).drew,((Blk.new1 w _ _ _).alloc _).drew,(Blk.new2 w _ _ _ _).drew⟩
    have D1:Hid (Blk W1 w.heap.size #[.int .i64 (HP:Int),.int .i64 (HB:Int),.int .i64 (HL:Int),UV HS] 75):=by show Blk _ _ _ _;rw [hW1];exact (((Blk.new w _ _).alloc _).alloc _).drew
    rw [←hW1]
    clear hW1
    have K1:=J1.out.k
    obtain ⟨d0,d1,d2,d3,dl⟩:=all4 D1.out
    obtain ⟨g0,g1,g2,g3,gl⟩:=all4 J1.out.c
    obtain ⟨f0,f1,f2,f3⟩:=froz4 J1.out.c
    obtain ⟨r0,r1,r2,r3,rl⟩:=all4 J1.out.r
    obtain ⟨s0,s1,s2,s3⟩:=froz4 J1.out.r
    have q1':=(K1.cell lg (o+1)).trans q1
    have p2':=(K1.cell lg (o+2)).trans p2
    have p3':=(K1.cell lg (o+3)).trans p3
    have K1H:Hid (Kept [] w W1):=K1
    clear K1 p0 q1 p2 p3
    go_wp2_with fail
    go_region_law (go_simp;go_at_call 38;refine (hfr.out _ (K1H.out.trans (by first | exact (Kept.refl [] _).drew | exact Kept.refl _ _))).mono ?_;rintro _ w5 ⟨rfl,k5⟩;have J5:Hid (LW _ w5 _):=J1.out.kept (Kept.trans (by first | exact (Kept.refl [] _).drew | exact Kept.refl _ _) k5);obtain ⟨g0,g1,g2,g3,gl⟩:=all4 J5.out.c;obtain ⟨f0,f1,f2,f3⟩:=froz4 J5.out.c;obtain ⟨r0,r1,r2,r3,rl⟩:=all4 J5.out.r;obtain ⟨s0,s1,s2,s3⟩:=froz4 J5.out.r)
    all_goals
     go_wp2
     have J6:LW w _ #[.int .i64 ((HP:Int)+(PL:Int)),.int .i64 (HB:Int),.int .i64 (HL:Int),UV FS]:=J5.out.set 3 (UV FS)
     obtain ⟨ky,by4⟩:=J6.done
     obtain ⟨x0,x1,x2,x3,_⟩:=all4 by4
     refine bodyPost_ret (v:=.agg #[.int .i64 ((HP:Int)+(PL:Int)),.int .i64 (HB:Int),.int .i64 (HL:Int),UV FS]) (by simp [results,Tryz.results18,go_sem,x0,x1,x2,x3]) rfl ⟨?_,ky⟩
     rw [e.out];unfold plCells;simp only [Int.natCast_add]
 · have p6:=hp.c6
   have p7:=hp.c7
   have ht:=htl hn
   have e:Hid (behindC ⟨HP,HB,HL,HS⟩ p=⟨HP+p.len,HP+p.len-p.tail,HL+p.nl,p.la⟩):=by show behindC _ _=_;unfold behindC;rw [if_neg hn]
   have hni:((p.nl:Nat):Int)≠0:=by omega
   clear hn hp htl
   generalize p.len=PL at *
   generalize p.nl=PN at *
   generalize p.tail=PT at *
   generalize p.la=LA at *
   have hsub:Hid (((HP+PL-PT:Nat):Int)=(HP:Int)+(PL:Int)-(PT:Int)):=by show _=_;omega
   have hg1:g<w.heap.size+1:=by omega
   have hg2:g<w.heap.size+1+1:=by omega
   have hg3:g≠w.heap.size:=by omega
   have hg4:g≠w.heap.size+1:=by omega
   have hg5:g≠w.heap.size+1+1:=by omega
   have hg6:g≠w.heap.size+2:=by omega
   go_enter Tryz.func18,Tryz.ntmps18
   go_wp2_with fail
   go_region
   all_goals
    obtain ⟨W1,hW1⟩:∃W1,W1=(((w.alloc (.cells #[.int .i64 (HP:Int),.int .i64 (HB:Int),.int .i64 (HL:Int),UV HS] 75)).alloc (.cells #[.int .i64 0,.int .i64 0,.int .i64 0,.int .u64 0] 75)).alloc (.cells #[.int .i64 ((HP:Int)+(PL:Int)),.int .i64 (HB:Int),.int .i64 ((HL:Int)+(PN:Int)),.int .u64 0] 75)).drew:=⟨_,rfl⟩
    have J1:Hid (LW w W1 #[.int .i64 ((HP:Int)+(PL:Int)),.int .i64 (HB:Int),.int .i64 ((HL:Int)+(PN:Int)),.int .u64 0]):=by
     show LW _ _ _;rw [hW1]
     exact ⟨((((Kept.refl [] w).alloc _).alloc _).alloc _).drew,((Blk.new1 w _ _ _).alloc _).drew,(Blk.new2 w _ _ _ _).drew⟩
    have D1:Hid (Blk W1 w.heap.size #[.int .i64 (HP:Int),.int .i64 (HB:Int),.int .i64 (HL:Int),UV HS] 75):=by show Blk _ _ _ _;rw [hW1];exact (((Blk.new w _ _).alloc _).alloc _).drew
    rw [←hW1]
    clear hW1
    have K1:=J1.out.k
    obtain ⟨d0,d1,d2,d3,dl⟩:=all4 D1.out
    obtain ⟨g0,g1,g2,g3,gl⟩:=all4 J1.out.c
    obtain ⟨f0,f1,f2,f3⟩:=froz4 J1.out.c
    obtain ⟨r0,r1,r2,r3,rl⟩:=all4 J1.out.r
    obtain ⟨s0,s1,s2,s3⟩:=froz4 J1.out.r
    have p1':=(K1.cell lg (o+1)).trans p1
    have p6':=(K1.cell lg (o+6)).trans p6
    have p7':=(K1.cell lg (o+7)).trans p7
    clear K1 p0 p1 p6 p7
    go_wp2_with fail
    go_region
    all_goals
     go_wp2
     have J6:LW w _ #[.int .i64 ((HP:Int)+(PL:Int)),.int .i64 ((HP:Int)+(PL:Int)-(PT:Int)),.int .i64 ((HL:Int)+(PN:Int)),.int .u64 0]:=J1.out.set 1 (.int .i64 ((HP:Int)+(PL:Int)-(PT:Int)))
     have J7:LW w _ #[.int .i64 ((HP:Int)+(PL:Int)),.int .i64 ((HP:Int)+(PL:Int)-(PT:Int)),.int .i64 ((HL:Int)+(PN:Int)),UV LA]:=J6.set 3 (UV LA)
     obtain ⟨ky,by4⟩:=J7.done
     obtain ⟨x0,x1,x2,x3,_⟩:=all4 by4.drew
     refine bodyPost_ret (v:=.agg #[.int .i64 ((HP:Int)+(PL:Int)),.int .i64 ((HP:Int)+(PL:Int)-(PT:Int)),.int .i64 ((HL:Int)+(PN:Int)),UV LA]) (by simp [results,Tryz.results18,go_sem,x0,x1,x2,x3]) rfl ⟨?_,ky.drew⟩
     rw [e.out];unfold plCells;simp only [Int.natCast_add,hsub.out]
theorem isInLine_any (w:World) (h:PLC):Calls Tryz.prog 19 #[.agg #[.int .i64 (h.pos:Int),.int .i64 (h.beg:Int),.int .i64 (h.lines:Int),UV h.set]] w fun e w'=>e=.returned (.bool (decide (h.beg<h.pos)))∧Kept [] w w':=by
 have hk:Hid (∀o,Kept [] w (w.alloc o)):=fun o=>(Kept.refl [] w).alloc o
 obtain ⟨HP,HB,HL,HS⟩:=h
 simp only []
 by_cases hl:(HB:Int)<(HP:Int)
 · have e:decide (HB<HP)=true:=decide_eq_true (by omega)
   rw [e]
   go_enter Tryz.func19,Tryz.ntmps19
   go_wp2
   go_ret
   exact ⟨rfl,hk.out _⟩
 · have e:decide (HB<HP)=false:=decide_eq_false (by omega)
   rw [e]
   go_enter Tryz.func19,Tryz.ntmps19
   go_wp2
   go_ret
   exact ⟨rfl,hk.out _⟩
def gN (f:ByteArray):Nat:=(prI f (3+4*bt f 2)).toNat
def gA (f:ByteArray) (k:Nat):Nat:=(prI f (3+4*k)).toNat
def gB (f:ByteArray) (k:Nat):Nat:=(prI f (5+4*k)).toNat
def gRules (f:ByteArray):Nat→List Nat
 | 0=>[]
 | k+1=>gRules f k++[gA f k,gB f k]
def gPs (f:ByteArray):Nat→List PI
 | 0=>[]
 | k+1=>gPs f k++[joinedP (sizeP (gPs f k) (gA f k)) (sizeP (gPs f k) (gB f k))]
def gS (f:ByteArray) (j:Nat):Nat:=(prI f (5+4*bt f 2+2*j)).toNat
def gTop (f:ByteArray):Nat→List Nat
 | 0=>[]
 | j+1=>gTop f j++[gS f j]
def gAll (f:ByteArray):PI:=wholeR (gPs f (bt f 2)) (gTop f (gN f))
theorem gRules_len (f:ByteArray):∀k,(gRules f k).length=2*k
 | 0=>rfl
 | k+1=>by show (gRules f k++_).length=_;rw [List.length_append,gRules_len f k];rfl
theorem gPs_len (f:ByteArray):∀k,(gPs f k).length=k
 | 0=>rfl
 | k+1=>by show (gPs f k++_).length=_;rw [List.length_append,gPs_len f k];rfl
theorem gTop_len (f:ByteArray):∀k,(gTop f k).length=k
 | 0=>rfl
 | k+1=>by show (gTop f k++_).length=_;rw [List.length_append,gTop_len f k];rfl
theorem gPs_small (f:ByteArray):∀k x,x∈gPs f k→PIsmall x
 | 0,x,h=>nomatch h
 | k+1,x,h=>by
   rcases List.mem_append.1 h with h | h
   · exact gPs_small f k x h
   · simp at h;subst h;exact joinedP_small (sizeP_small (gPs_small f k) _)
theorem GOk.a {f:ByteArray} (h:GOk f) {k:Nat} (hk:k<bt f 2):prI f (3+4*k)=(gA f k:Int)∧gA f k<256+k:=by
 have h1:=h.rules (2*k) (by omega)
 have e:3+2*(2*k)=3+4*k:=by omega
 have e2:2*k / 2=k:=by omega
 rw [e,e2] at h1
 unfold gA;omega
theorem GOk.b {f:ByteArray} (h:GOk f) {k:Nat} (hk:k<bt f 2):prI f (5+4*k)=(gB f k:Int)∧gB f k<256+k:=by
 have h1:=h.rules (2*k+1) (by omega)
 have e:3+2*(2*k+1)=5+4*k:=by omega
 have e2:(2*k+1) / 2=k:=by omega
 rw [e,e2] at h1
 unfold gB;omega
theorem GOk.n {f:ByteArray} (h:GOk f):prI f (3+4*bt f 2)=(gN f:Int)∧gN f≤1000∧f.size=5+4*bt f 2+2*gN f:=by
 have h1:=h.n0
 have h2:=h.n1
 have h3:=h.size
 unfold gN;omega
theorem GOk.s {f:ByteArray} (h:GOk f) {j:Nat} (hj:j<gN f):prI f (5+4*bt f 2+2*j)=(gS f j:Int)∧gS f j<256+bt f 2:=by
 obtain ⟨n1,n2,n3⟩:=h.n
 have h1:=h.syms j (by omega)
 have h2:0≤prI f (5+4*bt f 2+2*j):=by
  unfold prI
  rw [if_pos (by omega)]
  omega
 unfold gS;omega
theorem GOk.top {f:ByteArray} (h:GOk f):∀j,j≤gN f→∀s,s∈gTop f j→s<256+bt f 2
 | 0,_,s,hs=>nomatch hs
 | j+1,hj,s,hs=>by
   rcases List.mem_append.1 hs with hs | hs
   · exact h.top j (by omega) s hs
   · simp at hs;subst hs;exact (h.s (by omega)).2
structure G2 (w:World) (b B n:Nat) (rl:List Nat) (ps:List PI) (rv pv:Value):Prop where
 blk:Blk w b #[.int .i64 71,.int .i64 (n:Int),rv,.slice none 0 0,pv] 44
 lt:b<B
 up:B≤w.heap.size
 rules:w.ownsRow B 3 1 rv rl.length (symCells rl)
 pieces:w.ownsRow B 92 6 pv ps.length (piCells ps)
theorem G2.kept {w w':World} {b B n:Nat} {rl:List Nat} {ps:List PI} {rv pv:Value} (h:G2 w b B n rl ps rv pv) (k:Kept [] w w'):G2 w' b B n rl ps rv pv:=
 ⟨h.blk.kept k (by simp),h.lt,Nat.le_trans h.up k.size,row_stay (S:=[]) h.rules k (fun _ _=>by simp),row_stay (S:=[]) h.pieces k (fun _ _=>by simp)⟩
theorem G2.all {w:World} {b B n:Nat} {rl:List Nat} {ps:List PI} {rv pv:Value} (h:G2 w b B n rl ps rv pv) (hs:∀x,x∈ps→PIsmall x):GM w b B w.heap.size 71 n rl [] ps rv (.slice none 0 0) pv:=
 ⟨h.blk,h.lt,h.up,h.rules,fun g hg=>(h.rules.lt g hg).2,World.ownsRow_nil _ _ _ 1,h.pieces,hs⟩
section
variable {w0 w1:World} {b B n:Nat} {rl:List Nat} {ps:List PI} {rv pv:Value}
theorem G2.rules_fin (h:G2 w0 b B n rl ps rv pv) (g:w0.grownBy w1 rv.ownBlock) {v':Value} {x y:Nat} (hown:w1.ownsRow B 3 1 v' (rl.length+2) (symCells rl++[.int .i64 (x:Int),.int .i64 (y:Int)])):
 w1.cell? ⟨b,2,none⟩=some rv∧w1.frozen? ⟨b,2,none⟩=false∧b<w1.heap.size∧G2 (w1.setCell ⟨b,2,none⟩ v') b B n (rl++[x,y]) ps v' pv ∧
 (∀wa,Kept [] wa w0→wa.heap.size≤b→Kept [] wa (w1.setCell ⟨b,2,none⟩ v')):=by
 have hlow:∀k,k<B→some k≠rv.ownBlock:=fun k hk hc=>by have:=(h.rules.lt k hc.symm).1;omega
 have hb:Blk w1 b #[.int .i64 71,.int .i64 (n:Int),rv,.slice none 0 0,pv] 44:=(g.block b h.blk.lt (hlow b h.lt)).trans h.blk
 have hp:w1.ownsRow B 92 6 pv ps.length (piCells ps):=World.ownsRow.kept h.pieces g (own_ne h.pieces h.rules (by decide))
 refine ⟨hb.cell 2,hb.frozen 2,hb.lt,⟨hb.set 2 v',h.lt,by have:=g.size;have:=h.up;simp [World.setCell];omega,?_,row_set hp h.lt _ _⟩,?_⟩
 · have e:symCells (rl++[x,y])=symCells rl++[.int .i64 (x:Int),.int .i64 (y:Int)]:=by simp [symCells]
   rw [e,List.length_append]
   exact row_set hown h.lt _ _
 · intro wa ka hwb
   refine ⟨g.os.trans ka.os,g.tape.trans ka.tape,g.output.trans ka.output,by simpa [World.setCell] using Nat.le_trans ka.size g.size,fun i hi _=>?_⟩
   have hlt:=h.lt
   rw [Below.heap_setCell _ _ _ _ (by rintro rfl;omega)]
   exact (g.block i (Nat.lt_of_lt_of_le hi ka.size) (hlow i (by omega))).trans (ka.block i hi (by simp))
theorem G2.pieces_fin (h:G2 w0 b B n rl ps rv pv) (g:w0.grownBy w1 pv.ownBlock) {v':Value} {x:PI} (hown:w1.ownsRow B 92 6 v' (ps.length+1) (piCells ps++x.cells)):
 w1.cell? ⟨b,4,none⟩=some pv∧w1.frozen? ⟨b,4,none⟩=false∧b<w1.heap.size∧G2 (w1.setCell ⟨b,4,none⟩ v') b B n rl (ps++[x]) rv v' ∧
 (∀wa,Kept [] wa w0→wa.heap.size≤b→Kept [] wa (w1.setCell ⟨b,4,none⟩ v')):=by
 have hlow:∀k,k<B→some k≠pv.ownBlock:=fun k hk hc=>by have:=(h.pieces.lt k hc.symm).1;omega
 have hb:Blk w1 b #[.int .i64 71,.int .i64 (n:Int),rv,.slice none 0 0,pv] 44:=(g.block b h.blk.lt (hlow b h.lt)).trans h.blk
 have hr:w1.ownsRow B 3 1 rv rl.length (symCells rl):=World.ownsRow.kept h.rules g (own_ne h.rules h.pieces (by decide))
 refine ⟨hb.cell 4,hb.frozen 4,hb.lt,⟨hb.set 4 v',h.lt,by have:=g.size;have:=h.up;simp [World.setCell];omega,row_set hr h.lt _ _,?_⟩,?_⟩
 · rw [piCells_snoc,List.length_append]
   exact row_set hown h.lt _ _
 · intro wa ka hwb
   refine ⟨g.os.trans ka.os,g.tape.trans ka.tape,g.output.trans ka.output,by simpa [World.setCell] using Nat.le_trans ka.size g.size,fun i hi _=>?_⟩
   have hlt:=h.lt
   rw [Below.heap_setCell _ _ _ _ (by rintro rfl;omega)]
   exact (g.block i (Nat.lt_of_lt_of_le hi ka.size) (hlow i (by omega))).trans (ka.block i hi (by simp))
end
theorem infoPiece:(Tryz.prog.info? 92).map (fun i=>(i.zero,i.size,i.bytes)) =
 some (some (.agg #[.int .i64 0,.int .i64 0,.int .i64 0,.slice none 0 0,.slice none 0 0,.int .i64 0]),6,80):=by kernel_rfl
end Go.Proofs.YtgifhgnccmnbiabGreat
