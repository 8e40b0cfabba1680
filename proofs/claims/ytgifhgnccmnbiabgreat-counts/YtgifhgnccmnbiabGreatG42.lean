/- The document's machine: read, walked. -/
import Derived.Test.YtgifhgnccmnbiabGreatG41
set_option linter.unusedVariables false
set_option linter.unusedSimpArgs false
set_option maxHeartbeats 4000000
set_option maxRecDepth 100000
namespace Go.Proofs.YtgifhgnccmnbiabGreat
open Go.RowKit Go.IntWalk
theorem DmIn.inAny {w:World} {mb gn cap:Nat} {D:DMa} {adrs:List Nat} {F:Nat→Prop} {num:Bool} {mx:Int} {R:RelT} (h:DmIn w mb D adrs F num mx gn cap) (hR:MaOk D R) {i:Nat} {x:DN} (hx:D.nodes[i]?=some x) (hk:x.kind=1) (c:Nat) (hc:c<256):
 Calls Tryz.prog 51 #[.pointer (some ⟨adrs.getD x.part 0,0,none⟩),.bool D.fold,.int .i64 (c:Int)] w fun e w'=>e=.returned (.bool (yesB D c x))∧w'=w:=by
 have hi:i≠0:=fun hc=>by have:=(hR.only hx).2 hc;omega
 obtain ⟨p,hp,hpk⟩:∃p,D.ps[x.part]?=some p∧p.kind=x.kind:=by
  rcases hR.frag.ok i x (by omega) (List.getElem?_eq_some_iff.1 hx).1 hx with h7 | ⟨_,h⟩
  · omega
  · exact h
 obtain ⟨_,iv,kv,hpo⟩:=h.parts.part _ _ hp
 have:=in_any w F adrs p _ iv kv hpo (by omega) D.fold c hc
 have e:yesB D c x=inB p D.fold c:=by unfold yesB;rw [hp]
 rw [e]
 exact this
theorem dread_any {w:World} {mb gn cap:Nat} {D:DMa} {adrs:List Nat} {F:Nat→Prop} {num:Bool} {mx:Int} {R:RelT} (h:DmIn w mb D adrs F num mx gn cap) (hR:MaOk D R) (hn:D.nodes.length≤10000) {gv:Nat} {f:Nat→Bool} (hv:Blk w gv (boolRow (3+D.nodes.length) f) 4) (c:Nat) (hc:c<256):
 Calls Tryz.prog 25 #[.pointer (some ⟨mb,0,none⟩),rowV (3+D.nodes.length) gv,.int .i64 (c:Int)] w fun e' w'=>∃f',RowOut w w' e' (3+D.nodes.length) f'∧SF D.nodes.length f'=readS D (SF D.nodes.length f) c:=by
 have hH:Hid (DmIn _ _ _ _ _ _ _ _ _):=h
 have hvH:Hid (Blk _ _ _ _):=hv
 have hRH:Hid (MaOk _ _):=hR
 have hre:Hid (∀w',Kept [] w w'→Calls _ _ _ w' _):=fun w' k=>reached_any (h.kept k) hR hn (hv.kept k (by simp)) (f 0) false
 obtain ⟨n,hnn⟩:∃n,n=D.nodes.length:=⟨_,rfl⟩
 have hmk:=make_row (3+n) (by omega)
 have e3:((3+n:Nat):Int)=3+(n:Int):=by omega
 rw [e3] at hmk
 clear e3
 have v0:w.cell? ⟨gv,0,none⟩=some (.bool (f 0)):=by rw [hv.cell,boolRow_get _ (by omega)]
 have v1:w.cell? ⟨gv,1,none⟩=some (.bool (f 1)):=by rw [hv.cell,boolRow_get _ (by omega)]
 have hvl:=hv.lt
 have hnH:Hid (n=D.nodes.length):=hnn
 rw [←hnn] at hn hre
 rw [←hnn]
 clear hnn h hv hR
 have hb1:Hid (∀b,Blk (w.alloc (.cells ((boolRow (3+n) (fun _=>false)).setIfInBounds 1 (.bool b)) 4)) w.heap.size (boolRow (3+n) (fun k=>if k=1 then b else false)) 4∧Kept [] w (w.alloc (.cells ((boolRow (3+n) (fun _=>false)).setIfInBounds 1 (.bool b)) 4))):=fun b=>by
  rw [boolRow_set (fun _=>false) (fun k=>if k=1 then b else false) 1 b (fun j hj=>rfl)]
  exact ⟨Blk.new w _ _,(Kept.refl [] w).alloc _⟩
 have q1:(boolRow (3+n) (fun _=>false))[1]?=some (.bool false):=boolRow_get _ (by omega)
 unfold rowV at hre ⊢
 go_enter Tryz.func25,Tryz.ntmps25
 go_upto_region 2 with fail
 go_cut [7] (fun s wx=>s=.slice (some ⟨w.heap.size,0,none⟩) (3+n) (3+n)∧∃y,y=wx∧Blk y w.heap.size (boolRow (3+n) (fun k=>if k=1 then (f 0 || f 1) else false)) 4∧Kept [] w y)
 case first=>
  generalize f 0=Y0 at *
  generalize f 1=Y1 at *
  clear hre
  cases Y0 with
  | true=>go_wp2;go_meet;exact ⟨rfl,_,rfl,hb1.out _⟩
  | false=>go_wp2;go_meet;exact ⟨rfl,_,rfl,hb1.out _⟩
 case rest=>
  obtain ⟨rfl,y,hy,hyb,hyk⟩:=hcut
  subst hy
  have w2c:y.cell? ⟨w.heap.size,2,none⟩=some (.bool false):=by rw [hyb.cell,boolRow_get _ (by omega)];rfl
  have w2f:=hyb.frozen 2
  have w2l:=hyb.lt
  have hv2:=hvH.out.kept hyk (by simp)
  rw [←hnH.out] at hv2
  have u0:y.cell? ⟨gv,0,none⟩=some (.bool (f 0)):=by rw [hv2.cell,boolRow_get _ (by omega)]
  have u2:y.cell? ⟨gv,2,none⟩=some (.bool (f 2)):=by rw [hv2.cell,boolRow_get _ (by omega)]
  have hvl2:=hv2.lt
  have hgne:gv≠w.heap.size:=by omega
  have hZ:Hid (Blk (y.setCell ⟨w.heap.size,2,none⟩ (.bool (f 2))) w.heap.size (boolRow (3+n) (rdB D (fun _=>false) c f 0)) 4∧Kept [] w (y.setCell ⟨w.heap.size,2,none⟩ (.bool (f 2)))):=by
   have:=hyb.set 2 (.bool (f 2))
   rw [boolRow_set (fun k=>if k=1 then (f 0 || f 1) else false) (rdB D (fun _=>false) c f 0) 2 (f 2) (fun j hj=>rfl)] at this
   exact ⟨this,hyk.setCell (Or.inr (Nat.le_refl _)) _⟩
  clear hyb hyk hv2 hmk v0 v1 hb1 q1
  go_upto_region 4 with fail
  obtain ⟨Z,hZe⟩:∃Z,Z=y.setCell ⟨w.heap.size,2,none⟩ (.bool (f 2)):=⟨_,rfl⟩
  rw [←hZe] at hZ
  rw [←hZe]
  have hv3:=hvH.out.kept hZ.out.2 (by simp)
  rw [←hnH.out] at hv3
  have z0:Z.cell? ⟨gv,0,none⟩=some (.bool (f 0)):=by rw [hv3.cell,boolRow_get _ (by omega)]
  have zl:=hv3.lt
  have zs:=hZ.out.1.lt
  clear hZe w2c w2f w2l u0 u2 hvl2 hv3 hgne hvl
  go_wp2_with fail
  refine (hre.out _ hZ.out.2).mono ?_
  rintro e w3 ⟨o,⟨⟨gr,rfl,hge,hrb⟩,k3⟩,ho⟩
  have hoH:Hid (∀i,_):=ho
  have hB3:Hid (Blk w3 w.heap.size (boolRow (3+n) (rdB D o c f 0)) 4):=hZ.out.1.kept k3 (by simp)
  have hK3:Hid (Kept [] w w3):=hZ.out.2.trans k3
  have hr3:Hid (Blk w3 gr (boolRow n o) 4):=hrb
  have hne:gr≠w.heap.size:=by omega
  have hinH:Hid (∀i x,D.nodes[i]?=some x→x.kind=1→∀w',Kept [] w w'→Calls Tryz.prog 51 #[.pointer (some ⟨adrs.getD x.part 0,0,none⟩),.bool D.fold,.int .i64 (c:Int)] w' fun e w2=>e=.returned (.bool (yesB D c x))∧w2=w'):=fun i x hx hk w' k=>(hH.out.kept k).inAny hRH.out hx hk c hc
  clear hre ho hrb k3 hZ z0 zl zs hge
  unfold rowV
  go_wp2_with fail
  go_loopw [9,10,11] (fun iv _ _ wr=>∃i:Nat,iv=.int .i64 (i:Int)∧i≤n∧Blk wr w.heap.size (boolRow (3+n) (rdB D o c f i)) 4∧Blk wr gr (boolRow n o) 4∧Kept [] w wr) (fun iv _ _ _=>((n:Int)-intOf iv).toNat)
  case atStart=>exact ⟨0,rfl,Nat.zero_le _,hB3.out,hr3.out,hK3.out⟩
  case round=>
   obtain ⟨i,rfl,hi,hb,hrb,hkw⟩:=hrel
   have hbH:Hid (Blk _ _ _ _):=hb
   have hrH:Hid (Blk _ _ _ _):=hrb
   have hkwH:Hid (Kept _ _ _):=hkw
   clear hB3 hr3 hK3
   by_cases hlt:(i:Int)<(n:Int)
   · have hin:i<n:=by omega
     have r1:wr.cell? ⟨gr,i,none⟩=some (.bool (o i)):=by rw [hrb.cell,boolRow_get _ hin]
     have hrl:=hrb.lt
     have hst:Hid (rdB D o c f (i+1)=stepRd D o c i (rdB D o c f i)):=rfl
     cases ho:o i with
     | false=>
       rw [ho] at r1
       have e:Hid (rdB D o c f (i+1)=rdB D o c f i):=by
        show _=_;rw [hst.out];unfold stepRd;rw [ho];rfl
       clear hst ho hb hrb hkw
       go_wp2
       refine ⟨⟨i+1,by go_num,by omega,by rw [e.out];exact hbH.out,hrH.out,hkwH.out⟩,?_⟩
       simp only [intOf];omega
     | true=>
       rw [ho] at r1
       obtain ⟨x,hx⟩:∃x,D.nodes[i]?=some x:=⟨_,List.getElem?_eq_getElem (by rw [←hnH.out];exact hin)⟩
       have e:Hid (rdB D o c f (i+1)=oneB D c x (hitR D x (rdB D o c f i))):=by
        show _=_;rw [hst.out];unfold stepRd;rw [ho,if_pos rfl,hx]
       have hM:=hH.out.kept hkw
       have m5:wr.cell? ⟨mb,5,none⟩=some (.slice (some ⟨gn,0,none⟩) n cap):=by rw [hnH.out];exact hM.blk.cell 5
       have m2:wr.cell? ⟨mb,2,none⟩=some (.bool D.whole):=hM.blk.cell 2
       have m1:wr.cell? ⟨mb,1,none⟩=some (.bool D.fold):=hM.blk.cell 1
       have hmb3:=hM.blk.lt
       have d0:wr.cell? ⟨gn,i*4,none⟩=some (.int .i64 x.kind):=hM.node hx (j:=0) (by omega)
       have d1:wr.cell? ⟨gn,i*4+1,none⟩=some (if x.kind≤3 then ptrTo adrs x.part else .pointer none):=hM.node hx (j:=1) (by omega)
       have d2:wr.cell? ⟨gn,i*4+2,none⟩=some (.int .i64 (x.next:Int)):=hM.node hx (j:=2) (by omega)
       have d3:wr.cell? ⟨gn,i*4+3,none⟩=some (.int .i64 (x.other:Int)):=hM.node hx (j:=3) (by omega)
       have hgn:=hM.lt
       obtain ⟨pa,hpa,hpa2⟩:∃pa,(if x.kind≤3 then ptrTo adrs x.part else .pointer none)=Value.pointer pa∧(x.kind=1→pa=some ⟨adrs.getD x.part 0,0,none⟩):=by
        by_cases h3:x.kind≤3
        · rw [if_pos h3];exact ⟨_,rfl,fun _=>rfl⟩
        · rw [if_neg h3];exact ⟨_,rfl,fun h=>by omega⟩
       rw [hpa] at d1
       have hpaH:Hid (x.kind=1→pa=some ⟨adrs.getD x.part 0,0,none⟩):=hpa2
       have hinx:Hid (x.kind=1→_):=hinH.out i x hx
       have hnx:Hid (x.kind=1→x.next<n):=fun hk=>by rw [hnH.out];exact (hRH.out.next_lt hx (by omega)).1
       clear hM hpa hpa2 hx ho hst
       go_upto_region 10 with fail
       obtain ⟨W,hW⟩:∃W,W=wr.alloc (.cells #[.int .i64 x.kind,.pointer pa,.int .i64 (x.next:Int),.int .i64 (x.other:Int)] 97):=⟨_,rfl⟩
       rw [←hW]
       have hX:Blk W wr.heap.size #[.int .i64 x.kind,.pointer pa,.int .i64 (x.next:Int),.int .i64 (x.other:Int)] 97:=by rw [hW];exact Blk.new _ _ _
       have hWk1:Kept [] wr W:=by rw [hW];exact (Kept.refl [] wr).alloc _
       have hWb:Hid (Blk W w.heap.size (boolRow (3+n) (rdB D o c f i)) 4):=hb.kept hWk1 (by simp)
       have hWr:Hid (Blk W gr (boolRow n o) 4):=hrb.kept hWk1 (by simp)
       have hWk:Hid (Kept [] w W):=hkw.trans hWk1
       have hM2:=hH.out.kept hWk.out
       have m5':W.cell? ⟨mb,5,none⟩=some (.slice (some ⟨gn,0,none⟩) n cap):=by rw [hnH.out];exact hM2.blk.cell 5
       have m2':W.cell? ⟨mb,2,none⟩=some (.bool D.whole):=hM2.blk.cell 2
       have m1':W.cell? ⟨mb,1,none⟩=some (.bool D.fold):=hM2.blk.cell 1
       have hmbW:=hM2.blk.lt
       have x0:W.cell? ⟨wr.heap.size,0,none⟩=some (.int .i64 x.kind):=hX.cell 0
       have x1:W.cell? ⟨wr.heap.size,1,none⟩=some (.pointer pa):=hX.cell 1
       have x2:W.cell? ⟨wr.heap.size,2,none⟩=some (.int .i64 (x.next:Int)):=hX.cell 2
       have xl:=hX.lt
       have hs0:=hkw.size
       have b2:W.cell? ⟨w.heap.size,2,none⟩=some (.bool (rdB D o c f i 2)):=by rw [hWb.out.cell,boolRow_get _ (by omega)]
       have b2f:=hWb.out.frozen 2
       have bl:=hWb.out.lt
       have hxne:wr.heap.size≠w.heap.size:=by have:=hb.lt;omega
       clear hW hX hWk1 hM2 m5 m2 m1 hmb3 d0 d1 d2 d3 hgn hb hrb hkw r1 hrl hbH hrH hkwH
       by_cases h8:x.kind=8
       · have t8:(x.kind==8)=true:=by rw [h8];rfl
         have t1:(x.kind==1)=false:=by rw [h8];rfl
         have e1:Hid (rdB D o c f (i+1)=hitR D x (rdB D o c f i)):=by
          show _=_;rw [e.out];unfold oneB;rw [if_neg (by omega)]
         have h8H:Hid (x.kind=8):=h8
         clear h8 e hinx hpaH hnx
         cases hwh:D.whole with
         | false=>
           rw [hwh] at m2'
           have hfin:Hid (Blk (W.setCell ⟨w.heap.size,2,none⟩ (.bool true)) w.heap.size (boolRow (3+n) (rdB D o c f (i+1))) 4∧Blk (W.setCell ⟨w.heap.size,2,none⟩ (.bool true)) gr (boolRow n o) 4∧Kept [] w (W.setCell ⟨w.heap.size,2,none⟩ (.bool true))):=by
            refine ⟨?_,hWr.out.other _ _ hne,hWk.out.setCell (Or.inr (Nat.le_refl _)) _⟩
            rw [e1.out]
            unfold hitR
            rw [if_pos ⟨h8H.out,hwh⟩]
            have:=hWb.out.set 2 (.bool true)
            rwa [boolRow_set (rdB D o c f i) (updT (rdB D o c f i) 2) 2 true (fun j _=>rfl)] at this
           clear hwh e1 hWb hWr hWk
           go_wp2
           refine ⟨⟨i+1,by go_num,by omega,hfin.out⟩,?_⟩
           simp only [intOf];omega
         | true=>
           rw [hwh] at m2'
           have hfin:Hid (Blk W w.heap.size (boolRow (3+n) (rdB D o c f (i+1))) 4∧Blk W gr (boolRow n o) 4∧Kept [] w W):=by
            refine ⟨?_,hWr.out,hWk.out⟩
            rw [e1.out]
            unfold hitR
            rw [if_neg (fun hc=>by have:=hc.2;rw [hwh] at this;cases this)]
            exact hWb.out
           clear hwh e1 hWb hWr hWk
           go_wp2
           refine ⟨⟨i+1,by go_num,by omega,hfin.out⟩,?_⟩
           simp only [intOf];omega
       · have t8:(x.kind==8)=false:=beq_eq_false_iff_ne.2 h8
         have e1:Hid (rdB D o c f (i+1)=oneB D c x (rdB D o c f i)):=by
          show _=_;rw [e.out];unfold hitR;rw [if_neg (fun hc=>h8 hc.1)]
         clear h8 e
         by_cases h1:x.kind=1
         · have t1:(x.kind==1)=true:=by rw [h1];rfl
           obtain rfl:=hpaH.out h1
           have hnx1:=hnx.out h1
           have hinx1:Hid (∀w',Kept [] w w'→Calls _ _ _ w' _):=hinx.out h1
           have h1H:Hid (x.kind=1):=h1
           clear h1 hinx hpaH hnx b2 b2f
           go_upto_region 13 with fail
           go_quiet (first | (go_at_call 51;exact Calls.quiet_of_same (hinx1.out _ (by repeat (first | exact hWk.out | apply Kept.drew | apply Kept.drewN)))))
           obtain ⟨V,hV⟩:∃V,V=W.drewN nq:=⟨_,rfl⟩
           rw [←hV]
           have kV:Kept [] W V:=by rw [hV];exact (Kept.refl [] W).drewN _
           have hVb:Hid (Blk V w.heap.size (boolRow (3+n) (rdB D o c f i)) 4):=hWb.out.kept kV (by simp)
           have hVr:Hid (Blk V gr (boolRow n o) 4):=hWr.out.kept kV (by simp)
           have hVk:Hid (Kept [] w V):=hWk.out.trans kV
           have y2:V.cell? ⟨wr.heap.size,2,none⟩=some (.int .i64 (x.next:Int)):=(kV.cell xl 2).trans x2
           have y0:V.cell? ⟨wr.heap.size,0,none⟩=some (.int .i64 x.kind):=(kV.cell xl 0).trans x0
           have yl:wr.heap.size<V.heap.size:=Nat.lt_of_lt_of_le xl kV.size
           have p1:V.cell? ⟨w.heap.size,3+x.next,none⟩=some (.bool (rdB D o c f i (3+x.next))):=by rw [hVb.out.cell,boolRow_get _ (by omega)]
           have p2:=hVb.out.frozen (3+x.next)
           have p3:=hVb.out.lt
           have hfin:Hid (Blk (V.setCell ⟨w.heap.size,3+x.next,none⟩ (.bool (rdB D o c f i (3+x.next) || yesB D c x))) w.heap.size (boolRow (3+n) (rdB D o c f (i+1))) 4∧Blk (V.setCell ⟨w.heap.size,3+x.next,none⟩ (.bool (rdB D o c f i (3+x.next) || yesB D c x))) gr (boolRow n o) 4∧Kept [] w (V.setCell ⟨w.heap.size,3+x.next,none⟩ (.bool (rdB D o c f i (3+x.next) || yesB D c x)))):=by
            refine ⟨?_,hVr.out.other _ _ hne,hVk.out.setCell (Or.inr (Nat.le_refl _)) _⟩
            rw [e1.out]
            unfold oneB
            rw [if_pos h1H.out]
            have:=hVb.out.set (3+x.next) (.bool (rdB D o c f i (3+x.next) || yesB D c x))
            rwa [boolRow_set (rdB D o c f i) (fun k=>if k=3+x.next then (rdB D o c f i (3+x.next) || yesB D c x) else rdB D o c f i k) (3+x.next) _ (fun j _=>rfl)] at this
           clear hV kV hWb hWr hWk hVb hVr hVk e1 h1H hinx1 x0 x1 x2 xl m5' m2' m1' hmbW bl t8
           generalize rdB D o c f i (3+x.next)=A at *
           generalize yesB D c x=Y at *
           cases A with
           | true=>
             rw [Bool.true_or] at hfin
             go_wp2_with fail
             go_region
             go_wp2
             refine ⟨⟨i+1,by go_num,by omega,hfin.out.1.drew,hfin.out.2.1.drew,hfin.out.2.2.drew⟩,?_⟩
             simp only [intOf];omega
           | false=>
             rw [Bool.false_or] at hfin
             go_wp2_with fail
             go_region
             go_wp2
             refine ⟨⟨i+1,by go_num,by omega,hfin.out.1.drew,hfin.out.2.1.drew,hfin.out.2.2.drew⟩,?_⟩
             simp only [intOf];omega
         · have t1:(x.kind==1)=false:=beq_eq_false_iff_ne.2 h1
           have hfin:Hid (Blk W w.heap.size (boolRow (3+n) (rdB D o c f (i+1))) 4∧Blk W gr (boolRow n o) 4∧Kept [] w W):=by
            refine ⟨?_,hWr.out,hWk.out⟩
            rw [e1.out]
            unfold oneB
            rw [if_neg h1]
            exact hWb.out
           clear h1 e1 hWb hWr hWk hinx hpaH hnx
           go_wp2
           refine ⟨⟨i+1,by go_num,by omega,hfin.out⟩,?_⟩
           simp only [intOf];omega
   · have hin:i=n:=by omega
     subst hin
     clear hb hrb hkw
     go_wp2
     go_ret
     refine ⟨_,⟨⟨_,rfl,Nat.le_refl _,hbH.out⟩,hkwH.out⟩,?_⟩
     have:=rdB_read (c:=c) hRH.out (f:=f) (o:=o) (by rw [←hnH.out];exact hoH.out)
     rw [←hnH.out] at this
     exact this
section
variable (D:DMa) (o:Nat→Bool) (f:Nat→Bool)
def isDone (j:Nat):Bool:=match D.nodes[j]? with
 | some x=>x.kind==8
 | none=>false
def selI:Nat→Bool
 | 0=>f 2
 | i+1=>selI i || (o i&&isDone D i)
end
section
variable {D:DMa} {o f:Nat→Bool}
theorem selI_iff:∀i,selI D o f i=true↔f 2=true∨∃j,j<i∧o j=true∧isDone D j=true
 | 0=>⟨Or.inl,fun h=>by
    rcases h with h | ⟨j,h,_⟩
    · exact h
    · omega⟩
 | i+1=>by
   show (selI D o f i || (o i&&isDone D i))=true↔_
   rw [Bool.or_eq_true,Bool.and_eq_true,selI_iff i]
   constructor
   · rintro ((h | ⟨j,h1,h2⟩) | h)
     · exact Or.inl h
     · exact Or.inr ⟨j,by omega,h2⟩
     · exact Or.inr ⟨i,by omega,h⟩
   · rintro (h | ⟨j,h1,h2⟩)
     · exact Or.inl (Or.inl h)
     · by_cases hj:j=i
       · subst hj;exact Or.inr h2
       · exact Or.inl (Or.inr ⟨j,by omega,h2⟩)
theorem selI_sel {R:RelT} (hM:MaOk D R) (ho:∀i,(i<D.nodes.length∧o i=true)↔Rch D (SF D.nodes.length f) (f 0=true) True i):selI D o f D.nodes.length=true↔selS D (SF D.nodes.length f):=by
 have e0:(SF D.nodes.length f 0)=(f 0=true):=propext ⟨fun h=>h.2,fun h=>⟨by omega,h⟩⟩
 rw [selI_iff]
 unfold selS DoneIn
 rw [e0]
 constructor
 · rintro (h | ⟨j,h1,h2,h3⟩)
   · exact Or.inl ⟨by omega,h⟩
   · right
     unfold isDone at h3
     cases hx:D.nodes[j]? with
     | none=>rw [hx] at h3;cases h3
     | some x=>
       rw [hx] at h3
       exact ⟨j,x,(ho j).1 ⟨h1,h2⟩,hx,by simpa using h3⟩
 · rintro (h | ⟨j,x,h1,h2,h3⟩)
   · exact Or.inl h.2
   · obtain ⟨g1,g2⟩:=(ho j).2 h1
     exact Or.inr ⟨j,g1,g2,by unfold isDone;rw [h2];simpa using h3⟩
theorem SF_one {n i:Nat} (h:i<3+n):SF n (fun k=>k==i)=sgl i:=by
 funext k
 apply propext
 show (k<3+n∧(k==i)=true)↔k=i
 constructor
 · rintro ⟨_,h2⟩;simpa using h2
 · rintro rfl;exact ⟨h,by simp⟩
end
structure DselOut (w w':World) (e:Ending) (inv:Bool) (D:DMa) (S:SetD):Prop where
 ex:∃y:Bool,e=.returned (.bool (y != inv))∧(y=true↔selS D S)
 kept:Kept [] w w'
theorem dselects_any {w:World} {mb gn cap:Nat} {D:DMa} {adrs:List Nat} {F:Nat→Prop} {num:Bool} {mx:Int} {R:RelT} (h:DmIn w mb D adrs F num mx gn cap) (hR:MaOk D R) (hn:D.nodes.length≤10000) {gv:Nat} {f:Nat→Bool} (hv:Blk w gv (boolRow (3+D.nodes.length) f) 4):
 Calls Tryz.prog 11 #[.pointer (some ⟨mb,0,none⟩),rowV (3+D.nodes.length) gv] w fun e' w'=>DselOut w w' e' D.inv D (SF D.nodes.length f):=by
 have hH:Hid (DmIn _ _ _ _ _ _ _ _ _):=h
 have hvH:Hid (Blk _ _ _ _):=hv
 have hRH:Hid (MaOk _ _):=hR
 have hre:Hid (Calls _ _ _ w _):=reached_any h hR hn hv (f 0) true
 obtain ⟨n,hnn⟩:∃n,n=D.nodes.length:=⟨_,rfl⟩
 have v0:w.cell? ⟨gv,0,none⟩=some (.bool (f 0)):=by rw [hv.cell,boolRow_get _ (by omega)]
 have hvl:=hv.lt
 have hnH:Hid (n=D.nodes.length):=hnn
 rw [←hnn] at hn hre
 rw [←hnn]
 clear hnn h hv hR
 unfold rowV at hre ⊢
 go_enter Tryz.func11,Tryz.ntmps11
 go_wp2_with fail
 refine hre.out.mono ?_
 rintro e w3 ⟨o,⟨⟨gr,rfl,hge,hrb⟩,k3⟩,ho⟩
 have hoH:Hid (∀i,_):=ho
 have hK3:Hid (Kept [] w w3):=k3
 have hr3:Hid (Blk w3 gr (boolRow n o) 4):=hrb
 have hv3:=hvH.out.kept k3 (by simp)
 rw [←hnH.out] at hv3
 have u2:w3.cell? ⟨gv,2,none⟩=some (.bool (f 2)):=by rw [hv3.cell,boolRow_get _ (by omega)]
 have hvl3:=hv3.lt
 have hM:=hH.out.kept k3
 have m5:w3.cell? ⟨mb,5,none⟩=some (.slice (some ⟨gn,0,none⟩) n cap):=by rw [hnH.out];exact hM.blk.cell 5
 have m0:w3.cell? ⟨mb,0,none⟩=some (.bool D.inv):=hM.blk.cell 0
 have hmb3:=hM.blk.lt
 have hMH:Hid (DmIn _ _ _ _ _ _ _ _ _):=hM
 clear hre ho hrb k3 hv3 hM v0 hvl hge
 unfold rowV
 go_wp2_with fail
 go_loop [6,7] (fun yv iv=>∃i:Nat,iv=.int .i64 (i:Int)∧i≤n∧yv=.bool (selI D o f i)) (fun _ iv=>((n:Int)-intOf iv).toNat)
 case atStart=>exact ⟨0,rfl,Nat.zero_le _,rfl⟩
 case round=>
  obtain ⟨i,rfl,hi,rfl⟩:=hrel
  by_cases hlt:(i:Int)<(n:Int)
  · have hin:i<n:=by omega
    have r1:w3.cell? ⟨gr,i,none⟩=some (.bool (o i)):=by rw [hr3.out.cell,boolRow_get _ hin]
    have hrl:=hr3.out.lt
    obtain ⟨x,hx⟩:∃x,D.nodes[i]?=some x:=⟨_,List.getElem?_eq_getElem (by rw [←hnH.out];exact hin)⟩
    have d0:w3.cell? ⟨gn,i*4,none⟩=some (.int .i64 x.kind):=hMH.out.node hx (j:=0) (by omega)
    have hgn:=hMH.out.lt
    have hst:Hid (selI D o f (i+1)=(selI D o f i || (o i&&(x.kind==8)))):=by
     show (selI D o f i || (o i&&isDone D i))=_
     unfold isDone
     rw [hx]
    obtain ⟨T8,hT8⟩:∃T,(x.kind==8)=T:=⟨_,rfl⟩
    rw [hT8] at hst
    clear hx m0 u2 hvl3
    generalize selI D o f i=S0 at *
    generalize o i=O at *
    cases S0 with
    | true=>
      go_wp2
      refine ⟨⟨i+1,by go_num,by omega,by rw [hst.out];rfl⟩,by simp only [intOf];omega⟩
    | false=>
      cases O with
      | false=>
        go_wp2
        refine ⟨⟨i+1,by go_num,by omega,by rw [hst.out];rfl⟩,by simp only [intOf];omega⟩
      | true=>
        cases T8 <;>
        · go_wp2
          refine ⟨⟨i+1,by go_num,by omega,by rw [hst.out];rfl⟩,by simp only [intOf];omega⟩
  · have hin:i=n:=by omega
    subst hin
    go_wp2
    go_ret
    refine ⟨⟨_,rfl,?_⟩,hK3.out⟩
    have:=selI_sel hRH.out (f:=f) (o:=o) (by rw [←hnH.out];exact hoH.out)
    rw [←hnH.out] at this
    exact this
def WayIs (D:DMa) (u:List Nat) (W:Nat→Nat→Bool):Prop:=∀i,i<3+D.nodes.length→SF D.nodes.length (W i)=runD D u (sgl i)
theorem dway_any {w:World} {mb gn cap:Nat} {D:DMa} {adrs:List Nat} {F:Nat→Prop} {num:Bool} {mx:Int} {R:RelT} (h:DmIn w mb D adrs F num mx gn cap) (hR:MaOk D R) (hn:D.nodes.length≤10000) (c:Nat) (hc:c<256):
 Calls Tryz.prog 53 #[.pointer (some ⟨mb,0,none⟩),.int .i64 (c:Int)] w fun e' w'=>∃W,WayOut w w' e' (3+D.nodes.length) W∧WayIs D [c] W:=by
 obtain ⟨i0,hi0,hz0,hz1,hz2⟩:=info_parts infoRow
 have hH:Hid (DmIn _ _ _ _ _ _ _ _ _):=h
 have hre:Hid (∀w' gv f,Kept [] w w'→Blk w' gv (boolRow (3+D.nodes.length) f) 4→Calls _ _ _ w' _):=fun w' gv f k hv=>dread_any (h.kept k) hR hn hv c hc
 obtain ⟨n,hnn⟩:∃n,n=D.nodes.length:=⟨_,rfl⟩
 have hmk:=make_row (3+n) (by omega)
 have e3:((3+n:Nat):Int)=3+(n:Int):=by omega
 rw [e3] at hmk
 have c1:w.cell? ⟨mb,5,none⟩=some (.slice (some ⟨gn,0,none⟩) n cap):=by rw [hnn];exact h.blk.cell 5
 have hmb:=h.blk.lt
 have hnH:Hid (n=D.nodes.length):=hnn
 rw [←hnn] at hn hre
 rw [←hnn]
 clear hnn h hR e3
 unfold rowV at hre
 go_enter Tryz.func53,Tryz.ntmps53
 go_wp2_with fail
 go_loopw [6,7,8,9] (fun tv iv _ _ wr=>∃(rs:List Nat) (W:Nat→Nat→Bool),iv=.int .i64 (rs.length:Int)∧rs.length≤3+n∧Tab wr w.heap.size tv (3+n) rs W∧(∀i,i<rs.length→SF n (W i)=readS D (sgl i) c)∧Kept [] w wr) (fun _ iv _ _ _=>(3+(n:Int)-intOf iv).toNat)
 case atStart=>exact ⟨[],fun _ _=>false,rfl,Nat.zero_le _,Tab.nil _ _ _ _,fun i hi=>absurd hi (Nat.not_lt_zero _),Kept.refl _ _⟩
 case round=>
  obtain ⟨rs,W,rfl,hle,ht,hw,hkw⟩:=hrel
  have htH:Hid (Tab _ _ _ _ _ _):=ht
  have hkwH:Hid (Kept _ _ _):=hkw
  have hwH:Hid (∀i,_):=hw
  by_cases hlt:(rs.length:Int)<3+(n:Int)
  · have hin:rs.length<3+n:=by omega
    have hq:(boolRow (3+n) (fun _=>false))[rs.length]?=some (.bool false):=boolRow_get _ hin
    have hsz:=hkw.size
    have hV:Hid (Blk (wr.alloc (.cells ((boolRow (3+n) (fun _=>false)).setIfInBounds rs.length (.bool true)) 4)) wr.heap.size (boolRow (3+n) (fun k=>k==rs.length)) 4∧Kept [] w (wr.alloc (.cells ((boolRow (3+n) (fun _=>false)).setIfInBounds rs.length (.bool true)) 4))):=by
     rw [boolRow_set (fun _=>false) (fun k=>k==rs.length) rs.length true (fun j hj=>by
      by_cases h:j=rs.length
      · subst h;simp
      · rw [if_neg h];simpa using h)]
     exact ⟨Blk.new wr _ _,hkw.alloc _⟩
    have hka:Hid (∀o,Kept [] wr (wr.alloc o)):=fun o=>(Kept.refl [] wr).alloc o
    clear ht hw hkw
    go_wp2_with fail
    refine (hre.out _ _ _ hV.out.2 hV.out.1).mono ?_
    rintro e w2 ⟨f',⟨⟨g2,rfl,hge,hb2⟩,k2⟩,hf'⟩
    have hfH:Hid (SF n f'=readS D (sgl rs.length) c):=by
     show _=_
     rw [hf',SF_one hin]
    have hb2H:Hid (Blk w2 g2 _ _):=hb2
    have ht2:Hid (Tab w2 _ _ _ _ _):=htH.out.kept ((hka.out _).trans k2) (by simp)
    have hK2:Hid (Kept [] w w2):=hV.out.2.trans k2
    have hown2:Hid (∀o,(w2.alloc o).ownsRow _ _ _ _ _ _):=fun o=>ht2.out.own.alloc o
    have hnw:Hid (¬g2∈rs):=fun hc=>by have:=htH.out.lt hc;simp at hge;omega
    have hgeH:Hid (w.heap.size≤g2):=by show w.heap.size≤g2;simp at hge;omega
    have hsz2:=hK2.out.size
    unfold rowV
    clear k2 hb2 htH hkwH hV hka hf' hge
    go_wp2_with (at_builtin;go_loud (refine wpList_append_placed rfl (.tmp 30) (.tmp 32) 90 rfl w.heap.size 47 i0 _ 1 24 Tryz.underlying90 hi0 hz0 hz1 hz2 rfl (by decide) _ rs.length (rs.map (rowV (3+n))) rfl ?own ⟨w2.heap.size,0,none⟩ 1 1 [rowV (3+n) g2] (by simp [Act.eval,Act.put]) rfl ?n1 ?n2 ?b1 ?b2 ?b3 ?kk))
    case own=>exact hown2.out _
    case n1=>exact cells_new _ _ _ _ rfl
    case n2=>simp [Value.oneCell',rowV]
    case b1=>unfold maxLen;omega
    case b2=>omega
    case b3=>simp;omega
    case kk=>
     intro v' w5 hown hgrow _
     obtain ⟨ht5,hk5⟩:=ht2.out.push2 (M':=fun i=>if i=rs.length then f' else W i) hb2H.out hgeH.out hnw.out hown hgrow (fun i j hi hj=>by
      by_cases h:i=rs.length
      · simp only [if_pos h]
      · simp only [if_neg h])
     have hk5:=hk5 w hK2.out (Nat.le_refl _)
     have hw5:Hid (∀i,i<(rs++[g2]).length→SF n ((fun i=>if i=rs.length then f' else W i) i)=readS D (sgl i) c):=fun i hi=>by
      by_cases h:i=rs.length
      · subst h
        simp only [if_pos]
        exact hfH.out
      · simp only [if_neg h]
        exact hwH.out i (by rw [List.length_append] at hi;simp at hi;omega)
     clear hown hgrow
     go_wp2
     refine ⟨⟨_,_,?_,?_,ht5,hw5.out,hk5⟩,?_⟩
     · simp
     · simp;omega
     · simp only [intOf];omega
  · have hrl:rs.length=3+n:=by omega
    clear ht hw hkw
    go_wp2
    go_ret
    exact ⟨W,⟨⟨_,_,rfl,hrl,htH.out⟩,hkwH.out⟩,fun i hi=>by rw [←hnH.out];exact hwH.out i (by rw [hrl,hnH.out];exact hi)⟩
theorem dstill_any {w:World} {mb gn cap:Nat} {D:DMa} {adrs:List Nat} {F:Nat→Prop} {num:Bool} {mx:Int} (h:DmIn w mb D adrs F num mx gn cap) (hn:D.nodes.length≤10000):
 Calls Tryz.prog 52 #[.pointer (some ⟨mb,0,none⟩)] w fun e' w'=>WayOut w w' e' (3+D.nodes.length) (fun i k=>k==i):=by
 obtain ⟨i0,hi0,hz0,hz1,hz2⟩:=info_parts infoRow
 obtain ⟨n,hnn⟩:∃n,n=D.nodes.length:=⟨_,rfl⟩
 have hmk:=make_row (3+n) (by omega)
 have e3:((3+n:Nat):Int)=3+(n:Int):=by omega
 rw [e3] at hmk
 have c1:w.cell? ⟨mb,5,none⟩=some (.slice (some ⟨gn,0,none⟩) n cap):=by rw [hnn];exact h.blk.cell 5
 have hmb:=h.blk.lt
 rw [←hnn] at hn
 rw [←hnn]
 clear hnn h e3
 go_enter Tryz.func52,Tryz.ntmps52
 go_wp2_with fail
 go_loopw [4,5,6] (fun tv iv _ wr=>∃(rs:List Nat),iv=.int .i64 (rs.length:Int)∧rs.length≤3+n∧Tab wr w.heap.size tv (3+n) rs (fun i k=>k==i)∧Kept [] w wr) (fun _ iv _ _=>(3+(n:Int)-intOf iv).toNat)
 case atStart=>exact ⟨[],rfl,Nat.zero_le _,Tab.nil _ _ _ _,Kept.refl _ _⟩
 case round=>
  obtain ⟨rs,rfl,hle,ht,hkw⟩:=hrel
  have htH:Hid (Tab _ _ _ _ _ _):=ht
  have hkwH:Hid (Kept _ _ _):=hkw
  by_cases hlt:(rs.length:Int)<3+(n:Int)
  · have hin:rs.length<3+n:=by omega
    have hq:(boolRow (3+n) (fun _=>false))[rs.length]?=some (.bool false):=boolRow_get _ hin
    have hsz:=hkw.size
    have hV:Hid (Blk (wr.alloc (.cells ((boolRow (3+n) (fun _=>false)).setIfInBounds rs.length (.bool true)) 4)) wr.heap.size (boolRow (3+n) (fun k=>k==rs.length)) 4∧Kept [] w (wr.alloc (.cells ((boolRow (3+n) (fun _=>false)).setIfInBounds rs.length (.bool true)) 4))):=by
     rw [boolRow_set (fun _=>false) (fun k=>k==rs.length) rs.length true (fun j hj=>by
      by_cases h:j=rs.length
      · subst h;simp
      · rw [if_neg h];simpa using h)]
     exact ⟨Blk.new wr _ _,hkw.alloc _⟩
    clear ht hkw
    go_upto_region 8 with fail
    obtain ⟨w2,hw2⟩:∃w2,w2=wr.alloc (.cells ((boolRow (3+n) (fun _=>false)).setIfInBounds rs.length (.bool true)) 4):=⟨_,rfl⟩
    rw [←hw2] at hV
    rw [←hw2]
    have ht2:Hid (Tab w2 _ _ _ _ _):=htH.out.kept (by rw [hw2];exact (Kept.refl [] wr).alloc _) (by simp)
    have hown2:Hid (∀o,(w2.alloc o).ownsRow _ _ _ _ _ _):=fun o=>ht2.out.own.alloc o
    have hnw:Hid (¬wr.heap.size∈rs):=fun hc=>by have:=htH.out.lt hc;omega
    have hsz2:=hV.out.2.size
    clear htH hkwH hw2
    go_wp2_with (at_builtin;go_loud (refine wpList_append_placed rfl (.tmp 23) (.tmp 25) 90 rfl w.heap.size 47 i0 _ 1 24 Tryz.underlying90 hi0 hz0 hz1 hz2 rfl (by decide) _ rs.length (rs.map (rowV (3+n))) rfl ?own ⟨w2.heap.size,0,none⟩ 1 1 [rowV (3+n) wr.heap.size] (by simp [Act.eval,Act.put]) rfl ?n1 ?n2 ?b1 ?b2 ?b3 ?kk))
    case own=>exact hown2.out _
    case n1=>exact cells_new _ _ _ _ rfl
    case n2=>simp [Value.oneCell',rowV]
    case b1=>unfold maxLen;omega
    case b2=>omega
    case b3=>simp;omega
    case kk=>
     intro v' w5 hown hgrow _
     obtain ⟨ht5,hk5⟩:=ht2.out.push2 (M':=fun i k=>k==i) hV.out.1 hsz hnw.out hown hgrow (fun i j hi hj=>by
      by_cases h:i=rs.length
      · rw [if_pos h,h]
      · rw [if_neg h])
     have hk5:=hk5 w hV.out.2 (Nat.le_refl _)
     clear hown hgrow
     go_wp2
     refine ⟨⟨_,?_,?_,ht5,hk5⟩,?_⟩
     · simp
     · simp;omega
     · simp only [intOf];omega
  · have hrl:rs.length=3+n:=by omega
    clear ht hkw
    go_wp2
    go_ret
    exact ⟨⟨_,_,rfl,hrl,htH.out⟩,hkwH.out⟩
end Go.Proofs.YtgifhgnccmnbiabGreat
