/- The document's answer: a walk along a text, a symbol at a time. -/
import Derived.Test.YtgifhgnccmnbiabGreatG45
set_option linter.unusedVariables false
set_option linter.unusedSimpArgs false
set_option maxHeartbeats 4000000
set_option maxRecDepth 100000
namespace Go.Proofs.YtgifhgnccmnbiabGreat
open Go.RowKit Go.IntWalk
def newL (u x:List Nat):List (List Nat):=(crA u x).1
theorem newL_eq (u x:List Nat):newL u x=if compL x=[] then [] else (u++headL x) :: midL x:=by
 unfold newL
 rw [cr_from]
 split <;> rfl
theorem rest_eq (u x:List Nat):(crA u x).2=if compL x=[] then u++x else restL x:=by
 rw [cr_from]
 split
 · rename_i h;rw [comp_none h]
 · rfl
structure WkIn (w:World) (wk b mb:Nat) (D:DMa) (c3 c4 c5 c6 c7 c8 c9:Value) (S:SetD):Prop where
 ex:∃gv f,Blk w wk #[.pointer (some ⟨b,0,none⟩),.pointer (some ⟨mb,0,none⟩),rowV (3+D.nodes.length) gv,c3,c4,c5,c6,c7,c8,c9] 49∧Blk w gv (boolRow (3+D.nodes.length) f) 4∧SF D.nodes.length f=S
section
variable {w w':World} {wk:Nat} {cs:Array Value}
theorem blk_keptW {k:Nat} {cs':Array Value} {e:TypeId} (hb:Blk w k cs' e) (h:Kept [wk] w w') (hw:Blk w wk cs 49) (he:e≠49):Blk w' k cs' e:=by
 refine hb.kept h (fun hm=>?_)
 obtain rfl:=List.mem_singleton.1 hm
 unfold Blk at hb hw
 rw [hb] at hw
 simp only [Option.some.injEq,Obj.cells.injEq] at hw
 exact he hw.2.1
theorem StayT.ofW (h:Kept [wk] w w') (hw:Blk w wk cs 49):StayT w w':=⟨h.size,fun k cs' e h1 h2 hb=>blk_keptW hb h hw h2⟩
theorem GLn.keptW {b m:Nat} {kv nv rv tv pv:Value} {rl top:List Nat} {U:Nat→Nat→Value} (g:GLn w b kv nv rv tv pv rl top m U) (h:Kept [wk] w w') (hw:Blk w wk cs 49):GLn w' b kv nv rv tv pv rl top m U:=
 ⟨blk_keptW g.blk h hw (by decide),own_stayT g.rules (StayT.ofW h hw) (by decide) (by decide),own_stayT g.top (StayT.ofW h hw) (by decide) (by decide),fun hm=>by
  obtain ⟨gp,cap,cur,h1,h2,h3⟩:=g.pcs hm
  exact ⟨gp,cap,cur,h1,blk_keptW h2 h hw (by decide),h3⟩⟩
theorem Learned.keptW {D:DMa} {sel:List Nat→Bool} {T:List (List Nat)} {U:Nat→Nat→Value} {k:Nat} (l:Learned w D sel T U k) (h:Kept [wk] w w') (hw:Blk w wk cs 49):Learned w' D sel T U k:=fun i hi=>by
 obtain ⟨v3,v4,c,h1,h2⟩:=l i hi
 exact ⟨v3,v4,c,h1,fun hk=>(h2 hk).stayT (StayT.ofW h hw)⟩
end
structure PasOut (w w':World) (e:Ending) (wk b mb:Nat) (D:DMa) (sel:List Nat→Bool) (c3 c4 c5 c6 c7 c8 c9:Value) (u x:List Nat):Prop where
 ret:e=.returned (.int .i64 ((((newL u x).filter sel).length:Nat):Int))
 inm:WkIn w' wk b mb D c3 c4 c5 c6 c7 c8 c9 (runD D (crA u x).2 (sgl 0))
 kept:Kept [wk] w w'
theorem read_run (D:DMa) (u:List Nat) (s:Nat) (S:SetD):readS D (runD D u S) s=runD D (u++[s]) S:=by rw [runD_app];rfl
theorem passed_byte {w:World} {wk b mb gn cap:Nat} {D:DMa} {adrs:List Nat} {F:Nat→Prop} {num:Bool} {mx:Int} {R:RelT} {c3 c4 c5 c6 c7 c8 c9:Value} {u:List Nat}
 (hM:DmIn w mb D adrs F num mx gn cap) (hR:MaOk D R) (hn:D.nodes.length≤10000) (hW:WkIn w wk b mb D c3 c4 c5 c6 c7 c8 c9 (runD D u (sgl 0))) {s:Nat} (hs:s<256) (h10:s≠10) (sel:List Nat→Bool):
 Calls Tryz.prog 10 #[.pointer (some ⟨wk,0,none⟩),.int .i64 (s:Int)] w fun e w'=>PasOut w w' e wk b mb D sel c3 c4 c5 c6 c7 c8 c9 u [s]:=by
 obtain ⟨gv,f,hb,hv,hf⟩:=hW.ex
 have hrd:Hid (∀w',Kept [] w w'→Calls _ _ _ w' _):=fun w' k=>dread_any (hM.kept k) hR hn (hv.kept k (by simp)) s hs
 have hbH:Hid (Blk w wk _ _):=hb
 have w1:w.cell? ⟨wk,1,none⟩=some (.pointer (some ⟨mb,0,none⟩)):=hb.cell 1
 have w2:w.cell? ⟨wk,2,none⟩=some (rowV (3+D.nodes.length) gv):=hb.cell 2
 have hwl:=hb.lt
 have e1:(s:Int)<256:=by omega
 have e2:((s:Int) != 10)=true:=bne_iff_ne.2 (by omega)
 have hfH:Hid (_=_):=hf
 have h10H:Hid (s≠10):=h10
 unfold rowV at hrd w2 hbH
 have hfin:Hid (∀w1 w2 f' g',Kept [] w w1→Kept [] w1 w2→Blk w2 g' (boolRow (3+D.nodes.length) f') 4→w.heap.size≤g'→SF D.nodes.length f'=readS D (SF D.nodes.length f) s→PasOut w (w2.setCell ⟨wk,2,none⟩ (rowV (3+D.nodes.length) g')) (.returned (.int .i64 0)) wk b mb D sel c3 c4 c5 c6 c7 c8 c9 u [s]):=fun w1 w2 f' g' k1 k2 hb2 hg2 hf2=>by
  have hc:=comp_byte h10H.out
  refine ⟨by rw [newL_eq,if_pos hc];rfl,⟨g',f',?_,hb2.other _ _ (by omega),?_⟩,?_⟩
  · exact (hbH.out.kept (k1.trans k2) (by simp)).set 2 _
  · rw [rest_eq,if_pos hc,←read_run,hf2,hfH.out]
  · exact ((k1.trans k2).mono (by simp)).setCell (Or.inl (by simp)) _
 clear hM hR hW hb hv hf h10
 go_enter Tryz.func10,Tryz.ntmps10
 go_upto_region 2 with fail
 go_region_law (go_simp;go_at_call 25;refine (hrd.out _ (by first | exact (((Kept.refl [] w).drewN _).drew) | exact (Kept.refl [] w).drew | exact Kept.refl _ _)).mono ?_;rintro _ w5 ⟨f',⟨⟨g',rfl,hg',hb'⟩,k5⟩,hf'⟩;unfold rowV;have K0:Hid (Kept [] w _):=(by first | exact (((Kept.refl [] w).drewN _).drew) | exact (Kept.refl [] w).drew | exact Kept.refl _ _:Kept [] w _);have B5:=hbH.out.kept (K0.out.trans k5) (by simp);have r2:=B5.cell 2;have q2:=B5.frozen 2;have qH:Hid (∃x,x=w5):=⟨w5,rfl⟩)
 all_goals
  go_wp2
  exact bodyPost_ret (v:=.int .i64 0) (by simp [results,Tryz.results10,go_sem]) rfl (hfin.out _ _ _ _ K0.out k5 hb' hg' hf')
theorem mid_le (x:List Nat):(midL x).length≤x.length:=by
 have h1:=comp_le x
 unfold midL
 rw [List.length_tail]
 omega
theorem cntC_small {sel:List Nat→Bool} {x:List Nat} (h:x.length≤1099511627776):cntC sel x=((midL x).filter sel).length:=by
 have h1:=List.length_filter_le sel (midL x)
 have h2:=mid_le x
 unfold cntC
 exact capL_of (by omega)
structure PasI (w y:World) (g wk b mb:Nat) (D:DMa) (gv:Nat) (f:Nat→Bool) (c3 c4 c5 c6 c7 c8 c9:Value) (cs:Array Value):Prop where
 k:Kept [] w y
 wk:Blk y wk #[.pointer (some ⟨b,0,none⟩),.pointer (some ⟨mb,0,none⟩),.slice (some ⟨gv,0,none⟩) (3+D.nodes.length) (3+D.nodes.length),c3,c4,c5,c6,c7,c8,c9] 49
 row:Blk y gv (boolRow (3+D.nodes.length) f) 4
 p:Blk y g cs 92
 ge:w.heap.size≤g
theorem PasI.more {w y z:World} {g wk b mb:Nat} {D:DMa} {gv:Nat} {f:Nat→Bool} {c3 c4 c5 c6 c7 c8 c9:Value} {cs:Array Value} (h:PasI w y g wk b mb D gv f c3 c4 c5 c6 c7 c8 c9 cs) (k:Kept [] y z):PasI w z g wk b mb D gv f c3 c4 c5 c6 c7 c8 c9 cs:=
 ⟨h.k.trans k,h.wk.kept k (by simp),h.row.kept k (by simp),h.p.kept k (by simp),h.ge⟩
theorem StayT.set6 {w:World} {g:Nat} {cs:Array Value} (h:Blk w g cs 92) (u0 u1 u2 u3 u4 u5:Value):StayT w (set6W w g u0 u1 u2 u3 u4 u5):=by
 have st:∀{z:World} {cs:Array Value} (_:StayT w z) (_:Blk z g cs 92) (i:Nat) (v:Value),StayT w (z.setCell ⟨g,i,none⟩ v)∧Blk (z.setCell ⟨g,i,none⟩ v) g (cs.setIfInBounds i v) 92:=fun s b i v=>⟨s.set b (Or.inl rfl) i v,b.set i v⟩
 have h0:=st (StayT.refl w) h 0 u0
 have h1:=st h0.1 h0.2 1 u1
 have h2:=st h1.1 h1.2 2 u2
 have h3:=st h2.1 h2.2 3 u3
 have h4:=st h3.1 h3.2 4 u4
 exact (st h4.1 h4.2 5 u5).1
structure PasK (w y:World) (s5:Value) (wk b mb:Nat) (D:DMa) (gv:Nat) (f:Nat→Bool) (c3 c4 c5 c6 c7 c8 c9:Value) (sel:List Nat→Bool) (X:List Nat):Prop where
 ex:∃g x4 m4 k4 x5 m5 k5 ac,s5=.pointer (some ⟨g,0,none⟩)∧PasI w y g wk b mb D gv f c3 c4 c5 c6 c7 c8 c9 #[.int .i64 ((piOf X).long:Int),.int .i64 ((piOf X).ends:Int),.int .i64 ((piOf X).tail:Int),.slice x4 m4 k4,.slice x5 m5 k5,.int .i64 ((ac:Nat):Int)]∧PcM y D sel X (.slice x4 m4 k4) (.slice x5 m5 k5) ac
section
variable {w w5:World} {wk b mb:Nat} {D:DMa} {gv:Nat} {f:Nat→Bool} {c3 c4 c5 c6 c7 c8 c9:Value} {sel:List Nat→Bool} {X:List Nat} {x4 x5:Option Addr} {m4 k4 m5 k5 ac:Nat}
theorem PasK.mkA (hb:Blk w wk #[.pointer (some ⟨b,0,none⟩),.pointer (some ⟨mb,0,none⟩),.slice (some ⟨gv,0,none⟩) (3+D.nodes.length) (3+D.nodes.length),c3,c4,c5,c6,c7,c8,c9] 49) (hv:Blk w gv (boolRow (3+D.nodes.length) f) 4) (k:Kept [] w w5) (hP:PcM w5 D sel X (.slice x4 m4 k4) (.slice x5 m5 k5) ac):
 PasK w (w5.alloc (.cells #[.int .i64 ((piOf X).long:Int),.int .i64 ((piOf X).ends:Int),.int .i64 ((piOf X).tail:Int),.slice x4 m4 k4,.slice x5 m5 k5,.int .i64 ((ac:Nat):Int)] 92)) (.pointer (some ⟨w5.heap.size,0,none⟩)) wk b mb D gv f c3 c4 c5 c6 c7 c8 c9 sel X:=by
 have k5y:Kept [] w5 (w5.alloc (.cells #[.int .i64 ((piOf X).long:Int),.int .i64 ((piOf X).ends:Int),.int .i64 ((piOf X).tail:Int),.slice x4 m4 k4,.slice x5 m5 k5,.int .i64 ((ac:Nat):Int)] 92)):=(Kept.refl [] w5).alloc _
 exact ⟨_,x4,m4,k4,x5,m5,k5,ac,rfl,⟨k.trans k5y,hb.kept (k.trans k5y) (by simp),hv.kept (k.trans k5y) (by simp),Blk.new w5 _ _,k.size⟩,hP.kept k5y⟩
theorem PasK.mkB (hb:Blk w wk #[.pointer (some ⟨b,0,none⟩),.pointer (some ⟨mb,0,none⟩),.slice (some ⟨gv,0,none⟩) (3+D.nodes.length) (3+D.nodes.length),c3,c4,c5,c6,c7,c8,c9] 49) (hv:Blk w gv (boolRow (3+D.nodes.length) f) 4) (k:Kept [] w w5) {a0 a1 a2 a3 a4 a5:Value} (hz:Blk w5 w.heap.size #[a0,a1,a2,a3,a4,a5] 92) (hP:PcM w5 D sel X (.slice x4 m4 k4) (.slice x5 m5 k5) ac):
 PasK w (set6W w5 w.heap.size (.int .i64 ((piOf X).long:Int)) (.int .i64 ((piOf X).ends:Int)) (.int .i64 ((piOf X).tail:Int)) (.slice x4 m4 k4) (.slice x5 m5 k5) (.int .i64 ((ac:Nat):Int))) (.pointer (some ⟨w.heap.size,0,none⟩)) wk b mb D gv f c3 c4 c5 c6 c7 c8 c9 sel X:=by
 have hk:=kept6 k (Nat.le_refl _) (.int .i64 ((piOf X).long:Int)) (.int .i64 ((piOf X).ends:Int)) (.int .i64 ((piOf X).tail:Int)) (.slice x4 m4 k4) (.slice x5 m5 k5) (.int .i64 ((ac:Nat):Int))
 exact ⟨_,x4,m4,k4,x5,m5,k5,ac,rfl,⟨hk,hb.kept hk (by simp),hv.kept hk (by simp),set6 hz _ _ _ _ _ _,Nat.le_refl _⟩,hP.stayT (StayT.set6 hz _ _ _ _ _ _)⟩
end
theorem passed_sym {w:World} {wk b mb gn cap m:Nat} {kv nv rv tv pv:Value} {rl top:List Nat} {U:Nat→Nat→Value} {T:List (List Nat)} {D:DMa} {sel:List Nat→Bool} {adrs:List Nat} {F:Nat→Prop} {num:Bool} {mx:Int} {R:RelT} {c3 c4 c5 c6 c7 c8 c9:Value} {u:List Nat}
 (hG:GLn w b kv nv rv tv pv rl top T.length U) (hL:Learned w D sel T U T.length) (hT:T.length≤1000) (hM:DmIn w mb D adrs F num mx gn cap) (hR:MaOk D R) (hn:D.nodes.length≤10000) (hsel:SelD D sel)
 (hW:WkIn w wk b mb D c3 c4 c5 c6 c7 c8 c9 (runD D u (sgl 0))) {s:Nat} (hs:s<256+T.length) (hs2:256≤s∨s=10) (hX:(symT T s).length≤1099511627776) (hbx:∀c,c∈symT T s→c<256) (hbu:∀c,c∈u→c<256):
 Calls Tryz.prog 10 #[.pointer (some ⟨wk,0,none⟩),.int .i64 (s:Int)] w fun e w'=>PasOut w w' e wk b mb D sel c3 c4 c5 c6 c7 c8 c9 u (symT T s):=by
 obtain ⟨gv,f,hb,hv,hf⟩:=hW.ex
 have hkn:Hid (∀w',Kept [] w w'→Calls _ _ _ w' _):=fun w' k=>known_any (hG.kept k) (hL.kept k) (Nat.le_refl _) hT (hM.kept k) hR hn hs
 have hMH:Hid (DmIn _ _ _ _ _ _ _ _ _):=hM
 have hRH:Hid (MaOk _ _):=hR
 have hselH:Hid (SelD _ _):=hsel
 have hIH:Hid (Blk w wk _ _∧Blk w gv _ _):=⟨hb,hv⟩
 have w0:w.cell? ⟨wk,0,none⟩=some (.pointer (some ⟨b,0,none⟩)):=hb.cell 0
 have w1:w.cell? ⟨wk,1,none⟩=some (.pointer (some ⟨mb,0,none⟩)):=hb.cell 1
 have hwl:=hb.lt
 have hfH:Hid (_=_):=hf
 have hXH:Hid (_≤_):=hX
 have hbxH:Hid (∀c,_):=hbx
 have hbuH:Hid (∀c,_):=hbu
 unfold rowV at hIH
 clear hM hR hW hb hv hf hG hL hsel hX hbx hbu
 generalize symT T s=X at *
 by_cases hlt:s<256
 · have e1:(s:Int)<256:=by omega
   have e2:((s:Int) != 10)=false:=by
    obtain rfl:s=10:=by omega
    rfl
   clear hlt hs2 hs
   go_enter Tryz.func10,Tryz.ntmps10
   go_upto_region 4 with fail
   go_cut [5] (fun s5 wx=>∃y,y=wx∧PasK w y s5 wk b mb D gv f c3 c4 c5 c6 c7 c8 c9 sel X)
   case first=>
    go_region_law (go_simp;go_at_call 26;refine (hkn.out _ (by first | exact (Kept.refl [] w).drew | exact ((Kept.refl [] w).alloc _).drew)).mono ?_;rintro _ w5 ⟨⟨⟨x4,m4,k4⟩,⟨x5,m5,k5⟩,ac,rfl,hPA⟩,kk⟩;unfold uArr ivV;simp only [];have K5:Hid (Kept [] w w5):=Kept.trans (by first | exact (Kept.refl [] w).drew | exact ((Kept.refl [] w).alloc _).drew) kk;have hPAH:Hid (PcM w5 D sel X (.slice x4 m4 k4) (.slice x5 m5 k5) ac):=hPA;have kkH:Hid (Kept [] _ w5):=kk;clear kk hPA;first | (have Z5:Hid (Blk w5 w.heap.size #[.int .i64 0,.int .i64 0,.int .i64 0,.slice none 0 0,.slice none 0 0,.int .i64 0] 92):=(Blk.new w _ _).drew.kept kkH.out (by simp);obtain ⟨p0,p1,p2,p3,p4,p5,pl⟩:=all6 Z5.out;obtain ⟨f0,f1,f2,f3,f4,f5⟩:=froz6 Z5.out) | skip)
    all_goals
     go_wp2_with fail
     go_meet
     first
     | (have hz5:=Z5.out;exact ⟨_,rfl,PasK.mkB hIH.out.1 hIH.out.2 K5.out hz5 hPAH.out⟩)
     | exact ⟨_,rfl,PasK.mkA hIH.out.1 hIH.out.2 K5.out hPAH.out⟩
   case rest=>
    obtain ⟨y,hyx,⟨g5,x4,m4,k4,x5,m5,k5,ac,rfl,hIq,hPq⟩⟩:=hcut
    subst hyx
    have hI:Hid (PasI w y g5 wk b mb D gv f c3 c4 c5 c6 c7 c8 c9 #[.int .i64 ((piOf X).long:Int),.int .i64 ((piOf X).ends:Int),.int .i64 ((piOf X).tail:Int),.slice x4 m4 k4,.slice x5 m5 k5,.int .i64 (ac:Int)]):=hIq
    have hP:Hid (PcM y D sel X (.slice x4 m4 k4) (.slice x5 m5 k5) ac):=hPq
    clear hIq hPq
    clear hkn w0 w1
    obtain ⟨rows,W,q1,q2,q3⟩:=hP.out.way
    have hth:Hid (∀w',Kept [] y w'→Calls _ _ _ w' _):=fun w' k=>through_any (by omega) (hI.out.row.kept k (by simp)) (q2.kept k (by simp)) q1
    have hsf:Hid (SF D.nodes.length (thr f W (3+D.nodes.length))=runD D (u++headL X) (sgl 0)):=by
     have h1:=thr_run hfH.out (run_valid D u _ (sgl_valid 0)) q3
     rw [←runD_app] at h1
     exact h1
    unfold rowV at hth
    clear q1 q2 q3
    obtain ⟨p0,p1,p2,p3,p4,p5,pl⟩:=all6 hI.out.p
    have v2:y.cell? ⟨wk,2,none⟩=some (.slice (some ⟨gv,0,none⟩) (3+D.nodes.length) (3+D.nodes.length)):=hI.out.wk.cell 2
    have vl:=hI.out.wk.lt
    go_upto_region 5 with fail
    go_region_law (go_simp;go_at_call 27;refine (hth.out _ (by first | exact (((Kept.refl [] y).drewN _).drew) | exact (Kept.refl [] y).drew | exact Kept.refl _ _)).mono ?_;rintro _ w6 ⟨⟨g6,rfl,hg6,hb6⟩,kk⟩;unfold rowV;have K6:Hid (Kept [] y w6):=Kept.trans (by first | exact (((Kept.refl [] y).drewN _).drew) | exact (Kept.refl [] y).drew | exact Kept.refl _ _) kk;have hB6:Hid (Blk w6 g6 (boolRow (3+D.nodes.length) (thr f W (3+D.nodes.length))) 4):=hb6;have hg6H:Hid (y.heap.size≤g6):=hg6;clear kk hb6 hg6)
    all_goals
     have hI6:Hid (PasI w w6 g5 wk b mb D gv f c3 c4 c5 c6 c7 c8 c9 #[.int .i64 ((piOf X).long:Int),.int .i64 ((piOf X).ends:Int),.int .i64 ((piOf X).tail:Int),.slice x4 m4 k4,.slice x5 m5 k5,.int .i64 (ac:Int)]):=hI.out.more K6.out
     have hP6:Hid (PcM w6 D sel X (.slice x4 m4 k4) (.slice x5 m5 k5) ac):=hP.out.kept K6.out
     have hne6:Hid (g6≠wk):=by have h1:=hI.out.wk.lt;have h2:=hg6H.out;show g6≠wk;omega
     have t7:Hid ((compL X=[]→(((piOf X).ends:Int)==0)=true)∧(¬compL X=[]→(((piOf X).ends:Int)==0)=false)):=
      ⟨fun h=>by rw [(comp_ends X).2 h];rfl,fun h=>by have:(piOf X).ends≠0:=fun e=>h ((comp_ends X).1 e);exact beq_eq_false_iff_ne.2 (by omega)⟩
     clear p0 p1 p2 p3 p4 p5 pl v2 vl hI hP hth K6 hg6H
     obtain ⟨p0,p1,p2,p3,p4,p5,pl⟩:=all6 hI6.out.p
     have v1:w6.cell? ⟨wk,1,none⟩=some (.pointer (some ⟨mb,0,none⟩)):=hI6.out.wk.cell 1
     have v2:w6.cell? ⟨wk,2,none⟩=some (.slice (some ⟨gv,0,none⟩) (3+D.nodes.length) (3+D.nodes.length)):=hI6.out.wk.cell 2
     have q2:=hI6.out.wk.frozen 2
     have vl:=hI6.out.wk.lt
     by_cases hx:compL X=[]
     · have t7a:=t7.out.1 hx
       have hfin:Hid (PasOut w (w6.setCell ⟨wk,2,none⟩ (.slice (some ⟨g6,0,none⟩) (3+D.nodes.length) (3+D.nodes.length))) (.returned (.int .i64 0)) wk b mb D sel c3 c4 c5 c6 c7 c8 c9 u X):=by
        refine ⟨by rw [newL_eq,if_pos hx];rfl,⟨g6,_,hI6.out.wk.set 2 _,hB6.out.other _ _ hne6.out,?_⟩,(hI6.out.k.mono (by simp)).setCell (Or.inl (by simp)) _⟩
        rw [hsf.out,rest_eq,if_pos hx]
        unfold headL
        rw [if_pos hx]
       go_wp2
       exact bodyPost_ret (v:=.int .i64 0) (by simp [results,Tryz.results10,go_sem]) rfl hfin.out
     · have t7a:=t7.out.2 hx
       obtain ⟨ga,fa,ea,qa2,qa3⟩:=hP6.out.meet hx
       have hea:Hid (_=_):=ea
       have hqa:Hid (_=_):=qa3
       have hqa2:Hid (Blk _ _ _ _):=qa2
       clear ea qa3 qa2
       go_upto_region 10 with fail
       obtain ⟨z,hz⟩:∃z,z=w6.setCell ⟨wk,2,none⟩ (.slice x5 m5 k5):=⟨_,rfl⟩
       rw [←hz]
       have kz:Kept [wk] w6 z:=by rw [hz];exact (Kept.refl _ w6).setCell (Or.inl (by simp)) _
       have st:StayT w6 z:=StayT.ofW kz hI6.out.wk
       have hWz:Hid (Blk z wk #[.pointer (some ⟨b,0,none⟩),.pointer (some ⟨mb,0,none⟩),.slice x5 m5 k5,c3,c4,c5,c6,c7,c8,c9] 49):=by show Blk _ _ _ _;rw [hz];exact hI6.out.wk.set 2 _
       have hga:Hid (Blk z ga (boolRow (3+D.nodes.length) fa) 4):=st.blk _ _ _ (by decide) (by decide) hqa2.out
       have hB7:Hid (Blk z g6 (boolRow (3+D.nodes.length) (thr f W (3+D.nodes.length))) 4):=st.blk _ _ _ (by decide) (by decide) hB6.out
       have hPz:Hid (Blk z g5 #[.int .i64 ((piOf X).long:Int),.int .i64 ((piOf X).ends:Int),.int .i64 ((piOf X).tail:Int),.slice x4 m4 k4,.slice x5 m5 k5,.int .i64 (ac:Int)] 92):=by show Blk _ _ _ _;rw [hz];exact hI6.out.p.other _ _ (by have h1:=hI6.out.ge;omega)
       have hKz:Hid (Kept [wk] w z):=(hI6.out.k.mono (by simp)).trans kz
       have hse:Hid (Calls _ _ _ z _):=dselects_any ((hMH.out.kept hI6.out.k).stayT st) hRH.out hn hB7.out
       unfold rowV at hse
       have hss:Hid (∀y:Bool,(y=true↔selS D (SF D.nodes.length (thr f W (3+D.nodes.length))))→(y != D.inv)=sel (u++headL X)):=fun y hy1=>hselH.out _ (fun c hc=>by rcases List.mem_append.1 hc with h | h;exact hbuH.out c h;exact hbxH.out c (head_mem h)) y (by rw [hsf.out] at hy1;exact hy1)
       have hac:Hid (ac=((midL X).filter sel).length):=hP6.out.count.trans (cntC_small hXH.out)
       clear hz kz st p0 p1 p2 p3 p4 p5 pl v1 v2 q2 vl hB6 hP6
       have v1:z.cell? ⟨wk,1,none⟩=some (.pointer (some ⟨mb,0,none⟩)):=hWz.out.cell 1
       go_wp2_with fail
       refine hse.out.mono ?_
       rintro e w7 ⟨⟨y7,rfl,hy7⟩,kq⟩
       have hq7:=hss.out y7 hy7
       obtain ⟨q7,hq⟩:∃q,q=(y7 != D.inv):=⟨_,rfl⟩
       rw [←hq] at hq7 ⊢
       have hP7:Hid (Blk w7 g5 #[.int .i64 ((piOf X).long:Int),.int .i64 ((piOf X).ends:Int),.int .i64 ((piOf X).tail:Int),.slice x4 m4 k4,.slice x5 m5 k5,.int .i64 (ac:Int)] 92):=hPz.out.kept kq (by simp)
       have hfin:Hid (∀n:Nat,n=((newL u X).filter sel).length→PasOut w w7 (.returned (.int .i64 (n:Int))) wk b mb D sel c3 c4 c5 c6 c7 c8 c9 u X):=fun n hnn=>
        ⟨by rw [hnn],⟨ga,fa,by
         have h1:=hWz.out.kept kq (by simp)
         rw [hea.out] at h1
         exact h1,hga.out.kept kq (by simp),by rw [hqa.out,rest_eq,if_neg hx]⟩,hKz.out.trans (kq.mono (by simp))⟩
       clear hq hy7 hse hss kq v1
       obtain ⟨p0,p1,p2,p3,p4,p5,pl⟩:=all6 hP7.out
       cases q7
       · have hfin2:=hfin.out ac (by rw [newL_eq,if_neg hx,List.filter_cons,if_neg (by rw [←hq7];decide)];exact hac.out)
         have hf2:Hid (PasOut _ _ _ _ _ _ _ _ _ _ _ _ _ _ _ _ _):=hfin2
         clear hq7 hfin2
         go_wp2
         exact bodyPost_ret (v:=.int .i64 (ac:Int)) (by simp [results,Tryz.results10,go_sem]) rfl hf2.out
       · have hfin2:=hfin.out (ac+1) (by rw [newL_eq,if_neg hx,List.filter_cons,if_pos hq7.symm,List.length_cons,←hac.out])
         have hal:ac≤1099511627776:=by
          have h1:=List.length_filter_le sel (midL X)
          have h2:=mid_le X
          have h3:=hXH.out
          have h4:=hac.out
          omega
         have hf2:Hid (PasOut w w7 (.returned (.int .i64 ((ac:Int)+1))) wk b mb D sel c3 c4 c5 c6 c7 c8 c9 u X):=by
          show PasOut _ _ _ _ _ _ _ _ _ _ _ _ _ _ _ _ _
          exact (show ((ac+1:Nat):Int)=(ac:Int)+1 by omega) ▸ hfin2
         clear hq7 hfin2
         go_wp2
         exact bodyPost_ret (v:=.int .i64 ((ac:Int)+1)) (by simp [results,Tryz.results10,go_sem]) rfl hf2.out
 · have e1:¬(s:Int)<256:=by omega
   clear hlt hs2 hs
   go_enter Tryz.func10,Tryz.ntmps10
   go_upto_region 4 with fail
   go_cut [5] (fun s5 wx=>∃y,y=wx∧PasK w y s5 wk b mb D gv f c3 c4 c5 c6 c7 c8 c9 sel X)
   case first=>
    go_region_law (go_simp;go_at_call 26;refine (hkn.out _ (by first | exact (Kept.refl [] w).drew | exact ((Kept.refl [] w).alloc _).drew)).mono ?_;rintro _ w5 ⟨⟨⟨x4,m4,k4⟩,⟨x5,m5,k5⟩,ac,rfl,hPA⟩,kk⟩;unfold uArr ivV;simp only [];have K5:Hid (Kept [] w w5):=Kept.trans (by first | exact (Kept.refl [] w).drew | exact ((Kept.refl [] w).alloc _).drew) kk;have hPAH:Hid (PcM w5 D sel X (.slice x4 m4 k4) (.slice x5 m5 k5) ac):=hPA;have kkH:Hid (Kept [] _ w5):=kk;clear kk hPA;first | (have Z5:Hid (Blk w5 w.heap.size #[.int .i64 0,.int .i64 0,.int .i64 0,.slice none 0 0,.slice none 0 0,.int .i64 0] 92):=(Blk.new w _ _).drew.kept kkH.out (by simp);obtain ⟨p0,p1,p2,p3,p4,p5,pl⟩:=all6 Z5.out;obtain ⟨f0,f1,f2,f3,f4,f5⟩:=froz6 Z5.out) | skip)
    all_goals
     go_wp2_with fail
     go_meet
     first
     | (have hz5:=Z5.out;exact ⟨_,rfl,PasK.mkB hIH.out.1 hIH.out.2 K5.out hz5 hPAH.out⟩)
     | exact ⟨_,rfl,PasK.mkA hIH.out.1 hIH.out.2 K5.out hPAH.out⟩
   case rest=>
    obtain ⟨y,hyx,⟨g5,x4,m4,k4,x5,m5,k5,ac,rfl,hIq,hPq⟩⟩:=hcut
    subst hyx
    have hI:Hid (PasI w y g5 wk b mb D gv f c3 c4 c5 c6 c7 c8 c9 #[.int .i64 ((piOf X).long:Int),.int .i64 ((piOf X).ends:Int),.int .i64 ((piOf X).tail:Int),.slice x4 m4 k4,.slice x5 m5 k5,.int .i64 (ac:Int)]):=hIq
    have hP:Hid (PcM y D sel X (.slice x4 m4 k4) (.slice x5 m5 k5) ac):=hPq
    clear hIq hPq
    clear hkn w0 w1
    obtain ⟨rows,W,q1,q2,q3⟩:=hP.out.way
    have hth:Hid (∀w',Kept [] y w'→Calls _ _ _ w' _):=fun w' k=>through_any (by omega) (hI.out.row.kept k (by simp)) (q2.kept k (by simp)) q1
    have hsf:Hid (SF D.nodes.length (thr f W (3+D.nodes.length))=runD D (u++headL X) (sgl 0)):=by
     have h1:=thr_run hfH.out (run_valid D u _ (sgl_valid 0)) q3
     rw [←runD_app] at h1
     exact h1
    unfold rowV at hth
    clear q1 q2 q3
    obtain ⟨p0,p1,p2,p3,p4,p5,pl⟩:=all6 hI.out.p
    have v2:y.cell? ⟨wk,2,none⟩=some (.slice (some ⟨gv,0,none⟩) (3+D.nodes.length) (3+D.nodes.length)):=hI.out.wk.cell 2
    have vl:=hI.out.wk.lt
    go_upto_region 5 with fail
    go_region_law (go_simp;go_at_call 27;refine (hth.out _ (by first | exact (((Kept.refl [] y).drewN _).drew) | exact (Kept.refl [] y).drew | exact Kept.refl _ _)).mono ?_;rintro _ w6 ⟨⟨g6,rfl,hg6,hb6⟩,kk⟩;unfold rowV;have K6:Hid (Kept [] y w6):=Kept.trans (by first | exact (((Kept.refl [] y).drewN _).drew) | exact (Kept.refl [] y).drew | exact Kept.refl _ _) kk;have hB6:Hid (Blk w6 g6 (boolRow (3+D.nodes.length) (thr f W (3+D.nodes.length))) 4):=hb6;have hg6H:Hid (y.heap.size≤g6):=hg6;clear kk hb6 hg6)
    all_goals
     have hI6:Hid (PasI w w6 g5 wk b mb D gv f c3 c4 c5 c6 c7 c8 c9 #[.int .i64 ((piOf X).long:Int),.int .i64 ((piOf X).ends:Int),.int .i64 ((piOf X).tail:Int),.slice x4 m4 k4,.slice x5 m5 k5,.int .i64 (ac:Int)]):=hI.out.more K6.out
     have hP6:Hid (PcM w6 D sel X (.slice x4 m4 k4) (.slice x5 m5 k5) ac):=hP.out.kept K6.out
     have hne6:Hid (g6≠wk):=by have h1:=hI.out.wk.lt;have h2:=hg6H.out;show g6≠wk;omega
     have t7:Hid ((compL X=[]→(((piOf X).ends:Int)==0)=true)∧(¬compL X=[]→(((piOf X).ends:Int)==0)=false)):=
      ⟨fun h=>by rw [(comp_ends X).2 h];rfl,fun h=>by have:(piOf X).ends≠0:=fun e=>h ((comp_ends X).1 e);exact beq_eq_false_iff_ne.2 (by omega)⟩
     clear p0 p1 p2 p3 p4 p5 pl v2 vl hI hP hth K6 hg6H
     obtain ⟨p0,p1,p2,p3,p4,p5,pl⟩:=all6 hI6.out.p
     have v1:w6.cell? ⟨wk,1,none⟩=some (.pointer (some ⟨mb,0,none⟩)):=hI6.out.wk.cell 1
     have v2:w6.cell? ⟨wk,2,none⟩=some (.slice (some ⟨gv,0,none⟩) (3+D.nodes.length) (3+D.nodes.length)):=hI6.out.wk.cell 2
     have q2:=hI6.out.wk.frozen 2
     have vl:=hI6.out.wk.lt
     by_cases hx:compL X=[]
     · have t7a:=t7.out.1 hx
       have hfin:Hid (PasOut w (w6.setCell ⟨wk,2,none⟩ (.slice (some ⟨g6,0,none⟩) (3+D.nodes.length) (3+D.nodes.length))) (.returned (.int .i64 0)) wk b mb D sel c3 c4 c5 c6 c7 c8 c9 u X):=by
        refine ⟨by rw [newL_eq,if_pos hx];rfl,⟨g6,_,hI6.out.wk.set 2 _,hB6.out.other _ _ hne6.out,?_⟩,(hI6.out.k.mono (by simp)).setCell (Or.inl (by simp)) _⟩
        rw [hsf.out,rest_eq,if_pos hx]
        unfold headL
        rw [if_pos hx]
       go_wp2
       exact bodyPost_ret (v:=.int .i64 0) (by simp [results,Tryz.results10,go_sem]) rfl hfin.out
     · have t7a:=t7.out.2 hx
       obtain ⟨ga,fa,ea,qa2,qa3⟩:=hP6.out.meet hx
       have hea:Hid (_=_):=ea
       have hqa:Hid (_=_):=qa3
       have hqa2:Hid (Blk _ _ _ _):=qa2
       clear ea qa3 qa2
       go_upto_region 10 with fail
       obtain ⟨z,hz⟩:∃z,z=w6.setCell ⟨wk,2,none⟩ (.slice x5 m5 k5):=⟨_,rfl⟩
       rw [←hz]
       have kz:Kept [wk] w6 z:=by rw [hz];exact (Kept.refl _ w6).setCell (Or.inl (by simp)) _
       have st:StayT w6 z:=StayT.ofW kz hI6.out.wk
       have hWz:Hid (Blk z wk #[.pointer (some ⟨b,0,none⟩),.pointer (some ⟨mb,0,none⟩),.slice x5 m5 k5,c3,c4,c5,c6,c7,c8,c9] 49):=by show Blk _ _ _ _;rw [hz];exact hI6.out.wk.set 2 _
       have hga:Hid (Blk z ga (boolRow (3+D.nodes.length) fa) 4):=st.blk _ _ _ (by decide) (by decide) hqa2.out
       have hB7:Hid (Blk z g6 (boolRow (3+D.nodes.length) (thr f W (3+D.nodes.length))) 4):=st.blk _ _ _ (by decide) (by decide) hB6.out
       have hPz:Hid (Blk z g5 #[.int .i64 ((piOf X).long:Int),.int .i64 ((piOf X).ends:Int),.int .i64 ((piOf X).tail:Int),.slice x4 m4 k4,.slice x5 m5 k5,.int .i64 (ac:Int)] 92):=by show Blk _ _ _ _;rw [hz];exact hI6.out.p.other _ _ (by have h1:=hI6.out.ge;omega)
       have hKz:Hid (Kept [wk] w z):=(hI6.out.k.mono (by simp)).trans kz
       have hse:Hid (Calls _ _ _ z _):=dselects_any ((hMH.out.kept hI6.out.k).stayT st) hRH.out hn hB7.out
       unfold rowV at hse
       have hss:Hid (∀y:Bool,(y=true↔selS D (SF D.nodes.length (thr f W (3+D.nodes.length))))→(y != D.inv)=sel (u++headL X)):=fun y hy1=>hselH.out _ (fun c hc=>by rcases List.mem_append.1 hc with h | h;exact hbuH.out c h;exact hbxH.out c (head_mem h)) y (by rw [hsf.out] at hy1;exact hy1)
       have hac:Hid (ac=((midL X).filter sel).length):=hP6.out.count.trans (cntC_small hXH.out)
       clear hz kz st p0 p1 p2 p3 p4 p5 pl v1 v2 q2 vl hB6 hP6
       have v1:z.cell? ⟨wk,1,none⟩=some (.pointer (some ⟨mb,0,none⟩)):=hWz.out.cell 1
       go_wp2_with fail
       refine hse.out.mono ?_
       rintro e w7 ⟨⟨y7,rfl,hy7⟩,kq⟩
       have hq7:=hss.out y7 hy7
       obtain ⟨q7,hq⟩:∃q,q=(y7 != D.inv):=⟨_,rfl⟩
       rw [←hq] at hq7 ⊢
       have hP7:Hid (Blk w7 g5 #[.int .i64 ((piOf X).long:Int),.int .i64 ((piOf X).ends:Int),.int .i64 ((piOf X).tail:Int),.slice x4 m4 k4,.slice x5 m5 k5,.int .i64 (ac:Int)] 92):=hPz.out.kept kq (by simp)
       have hfin:Hid (∀n:Nat,n=((newL u X).filter sel).length→PasOut w w7 (.returned (.int .i64 (n:Int))) wk b mb D sel c3 c4 c5 c6 c7 c8 c9 u X):=fun n hnn=>
        ⟨by rw [hnn],⟨ga,fa,by
         have h1:=hWz.out.kept kq (by simp)
         rw [hea.out] at h1
         exact h1,hga.out.kept kq (by simp),by rw [hqa.out,rest_eq,if_neg hx]⟩,hKz.out.trans (kq.mono (by simp))⟩
       clear hq hy7 hse hss kq v1
       obtain ⟨p0,p1,p2,p3,p4,p5,pl⟩:=all6 hP7.out
       cases q7
       · have hfin2:=hfin.out ac (by rw [newL_eq,if_neg hx,List.filter_cons,if_neg (by rw [←hq7];decide)];exact hac.out)
         have hf2:Hid (PasOut _ _ _ _ _ _ _ _ _ _ _ _ _ _ _ _ _):=hfin2
         clear hq7 hfin2
         go_wp2
         exact bodyPost_ret (v:=.int .i64 (ac:Int)) (by simp [results,Tryz.results10,go_sem]) rfl hf2.out
       · have hfin2:=hfin.out (ac+1) (by rw [newL_eq,if_neg hx,List.filter_cons,if_pos hq7.symm,List.length_cons,←hac.out])
         have hal:ac≤1099511627776:=by
          have h1:=List.length_filter_le sel (midL X)
          have h2:=mid_le X
          have h3:=hXH.out
          have h4:=hac.out
          omega
         have hf2:Hid (PasOut w w7 (.returned (.int .i64 ((ac:Int)+1))) wk b mb D sel c3 c4 c5 c6 c7 c8 c9 u X):=by
          show PasOut _ _ _ _ _ _ _ _ _ _ _ _ _ _ _ _ _
          exact (show ((ac+1:Nat):Int)=(ac:Int)+1 by omega) ▸ hfin2
         clear hq7 hfin2
         go_wp2
         exact bodyPost_ret (v:=.int .i64 ((ac:Int)+1)) (by simp [results,Tryz.results10,go_sem]) rfl hf2.out
theorem passed_any {w:World} {wk b mb gn cap:Nat} {kv nv rv tv pv:Value} {rl top:List Nat} {U:Nat→Nat→Value} {T:List (List Nat)} {D:DMa} {sel:List Nat→Bool} {adrs:List Nat} {F:Nat→Prop} {num:Bool} {mx:Int} {R:RelT} {c3 c4 c5 c6 c7 c8 c9:Value} {u:List Nat}
 (hG:GLn w b kv nv rv tv pv rl top T.length U) (hL:Learned w D sel T U T.length) (hT:T.length≤1000) (hM:DmIn w mb D adrs F num mx gn cap) (hR:MaOk D R) (hn:D.nodes.length≤10000) (hsel:SelD D sel)
 (hW:WkIn w wk b mb D c3 c4 c5 c6 c7 c8 c9 (runD D u (sgl 0))) {s:Nat} (hs:s<256+T.length) (hX:(symT T s).length≤1099511627776) (hbx:∀c,c∈symT T s→c<256) (hbu:∀c,c∈u→c<256):
 Calls Tryz.prog 10 #[.pointer (some ⟨wk,0,none⟩),.int .i64 (s:Int)] w fun e w'=>PasOut w w' e wk b mb D sel c3 c4 c5 c6 c7 c8 c9 u (symT T s):=by
 by_cases h:256≤s∨s=10
 · exact passed_sym (m:=0) hG hL hT hM hR hn hsel hW hs h hX hbx hbu
 · have e:symT T s=[s]:=if_pos (by omega)
   rw [e]
   exact passed_byte hM hR hn hW (by omega) (by omega) sel
structure BegIn (w:World) (b mb gn cap:Nat) (kv nv rv tv pv:Value) (rl top:List Nat) (U:Nat→Nat→Value) (T:List (List Nat)) (D:DMa) (sel:List Nat→Bool) (adrs:List Nat) (F:Nat→Prop) (num:Bool) (mx:Int) (R:RelT) (X:List Nat):Prop where
 G:GLn w b kv nv rv tv pv rl top T.length U
 L:Learned w D sel T U T.length
 T1:T.length≤1000
 M:DmIn w mb D adrs F num mx gn cap
 R1:MaOk D R
 n:D.nodes.length≤10000
 s:SelD D sel
 syms:∀s,s∈top→s<256+T.length
 text:X=top.flatMap (symT T)
 xlen:X.length≤1099511627776
 nlen:top.length≤100000000
 byte:∀c,c∈X→c<256
 rs:RSound rl (T.map piOf) T
section
variable {w w':World} {wk b mb gn cap:Nat} {kv nv rv tv pv:Value} {rl top:List Nat} {U:Nat→Nat→Value} {T:List (List Nat)} {D:DMa} {sel:List Nat→Bool} {adrs:List Nat} {F:Nat→Prop} {num:Bool} {mx:Int} {R:RelT} {X:List Nat} {cs:Array Value}
theorem BegIn.keptW (h:BegIn w b mb gn cap kv nv rv tv pv rl top U T D sel adrs F num mx R X) (k:Kept [wk] w w') (hw:Blk w wk cs 49):BegIn w' b mb gn cap kv nv rv tv pv rl top U T D sel adrs F num mx R X:=
 ⟨h.G.keptW k hw,h.L.keptW k hw,h.T1,h.M.stayT (StayT.ofW k hw),h.R1,h.n,h.s,h.syms,h.text,h.xlen,h.nlen,h.byte,h.rs⟩
def ahead (T:List (List Nat)) (top:List Nat) (i:Nat):List Nat:=(top.take i).flatMap (symT T)
theorem ahead_succ {i:Nat} (h:i<top.length):ahead T top (i+1)=ahead T top i++symT T (top.getD i 0):=by
 unfold ahead
 rw [List.take_add_one,List.flatMap_append,List.getD_eq_getElem?_getD,List.getElem?_eq_getElem h]
 simp
theorem ahead_le (i:Nat):(ahead T top i).length≤(top.flatMap (symT T)).length:=by
 have h:top.flatMap (symT T)=ahead T top i++(top.drop i).flatMap (symT T):=by
  unfold ahead
  rw [←List.flatMap_append,List.take_append_drop]
 rw [h,List.length_append]
 omega
theorem ahead_mem {i c:Nat} (h:c∈ahead T top i):c∈top.flatMap (symT T):=by
 unfold ahead at h
 obtain ⟨s,h1,h2⟩:=List.mem_flatMap.1 h
 exact List.mem_flatMap.2 ⟨s,List.mem_of_mem_take h1,h2⟩
def cntS (sel:List Nat→Bool) (Y:List Nat):Nat:=((compL Y).filter sel).length
theorem cntS_app (Y x:List Nat):cntS sel (Y++x)=cntS sel Y+((newL (restL Y) x).filter sel).length:=by
 unfold cntS newL
 rw [compL_app,List.filter_append,List.length_append]
theorem cntS_le (Y:List Nat):cntS sel Y≤Y.length:=Nat.le_trans (List.length_filter_le _ _) (comp_le Y)
theorem BegIn.pass (h:BegIn w b mb gn cap kv nv rv tv pv rl top U T D sel adrs F num mx R X) {c3 c4 c5 c6 c7 c8 c9:Value} {i:Nat} (hi:i<top.length) (hW:WkIn w wk b mb D c3 c4 c5 c6 c7 c8 c9 (runD D (restL (ahead T top i)) (sgl 0))):
 Calls Tryz.prog 10 #[.pointer (some ⟨wk,0,none⟩),.int .i64 ((top.getD i 0:Nat):Int)] w fun e w'=>PasOut w w' e wk b mb D sel c3 c4 c5 c6 c7 c8 c9 (restL (ahead T top i)) (symT T (top.getD i 0)):=by
 have hm:top.getD i 0∈top:=by rw [List.getD_eq_getElem?_getD,List.getElem?_eq_getElem hi];exact List.getElem_mem hi
 have hx:=h.xlen
 have hap:=ahead_succ (T:=T) hi
 have hle:=ahead_le (T:=T) (top:=top) (i+1)
 rw [hap,List.length_append] at hle
 rw [h.text] at hx
 refine passed_any h.G h.L h.T1 h.M h.R1 h.n h.s hW (h.syms _ hm) (by omega) (fun c hc=>h.byte c ?_) (fun c hc=>h.byte c ?_)
 · rw [h.text];exact List.mem_flatMap.2 ⟨_,hm,hc⟩
 · rw [h.text];exact ahead_mem (rest_mem hc)
end
theorem run_fresh (D:DMa) (u:List Nat):runD D u (sgl 0) 0↔u=[]:=by
 constructor
 · intro h
   rcases List.eq_nil_or_concat u with rfl | ⟨v,c,rfl⟩
   · rfl
   · rw [List.concat_eq_append,runD_app] at h
     exact absurd h (fun h=>h)
 · rintro rfl;rfl
theorem lines_cnt (sel:List Nat→Bool) (X:List Nat):((linesL X).filter sel).length=if restL X≠[]∧sel (restL X)=true then cntS sel X+1 else cntS sel X:=by
 rw [linesL_cr,List.filter_append,List.length_append]
 unfold cntS
 by_cases h:restL X=[]
 · rw [if_pos h,if_neg (fun hc=>hc.1 h)];simp
 · rw [if_neg h]
   by_cases hs:sel (restL X)=true
   · rw [if_pos ⟨h,hs⟩,List.filter_cons,if_pos hs];simp
   · rw [if_neg (fun hc=>hs hc.2),List.filter_cons,if_neg hs];simp
structure BegOut (w w':World) (e:Ending) (D:DMa) (sel:List Nat→Bool) (num:Bool) (mx:Int) (X:List Nat):Prop where
 ex:∃wk b mb gn cap kv nv rv tv pv rl top U T adrs F R,e=.returned (.tuple #[.pointer (some ⟨wk,0,none⟩),.int .i64 0])∧BegIn w' b mb gn cap kv nv rv tv pv rl top U T D sel adrs F num mx R X∧WkIn w' wk b mb D (.int .i64 0) (.int .i64 0) (.int .i64 0) (.int .i64 0) (.string ⟨#[]⟩) (.bool false) (.bool false) (sgl 0)∧w.heap.size≤wk
 below:Below w.heap.size w w'
end Go.Proofs.YtgifhgnccmnbiabGreat
