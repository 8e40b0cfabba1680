/- The document's machine in memory: begun, reached, walked. -/
import Derived.Test.YtgifhgnccmnbiabGreatG34
import Derived.Test.YtgifhgnccmnbiabGreatG39
import Derived.Test.YtgifhgnccmnbiabGreatG40
import Derived.Lib.AppendStr
import Derived.Deep.DeepCutAuto
import Derived.BigQuiet
set_option linter.unusedVariables false
set_option linter.unusedSimpArgs false
set_option maxHeartbeats 4000000
set_option maxRecDepth 100000
namespace Go.Proofs.YtgifhgnccmnbiabGreat
open Go.RowKit Go.IntWalk
def ndCells (adrs:List Nat) (x:DN):List Value:=[.int .i64 x.kind,if x.kind≤3 then ptrTo adrs x.part else .pointer none,.int .i64 (x.next:Int),.int .i64 (x.other:Int)]
def ndRow (adrs:List Nat) (N:List DN):List Value:=N.flatMap (ndCells adrs)
theorem ndRow_get (adrs:List Nat):∀(l:List DN) (i j:Nat) (x:DN),l[i]?=some x→j<4→(ndRow adrs l)[i*4+j]?=(ndCells adrs x)[j]?
 | [],i,j,x,h,_=>by simp at h
 | y :: l,0,j,x,h,hj=>by
   simp only [List.getElem?_cons_zero,Option.some.injEq] at h
   subst h
   show (ndCells adrs y++ndRow adrs l)[0*4+j]?=_
   rw [List.getElem?_append_left (by simp [ndCells];omega)]
   congr 1;omega
 | y :: l,i+1,j,x,h,hj=>by
   rw [List.getElem?_cons_succ] at h
   show (ndCells adrs y++ndRow adrs l)[(i+1)*4+j]?=_
   rw [List.getElem?_append_right (by simp [ndCells];omega),show (i+1)*4+j-(ndCells adrs y).length=i*4+j by simp [ndCells];omega]
   exact ndRow_get adrs l i j x h hj
theorem ndRow_snoc (adrs:List Nat) (l:List DN) (x:DN):ndRow adrs (l++[x])=ndRow adrs l++ndCells adrs x:=by simp [ndRow]
structure DmIn (w:World) (mb:Nat) (D:DMa) (adrs:List Nat) (F:Nat→Prop) (num:Bool) (mx:Int) (gn cap:Nat):Prop where
 blk:Blk w mb #[.bool D.inv,.bool D.fold,.bool D.whole,.bool num,.int .i64 mx,.slice (some ⟨gn,0,none⟩) D.nodes.length cap,.int .i64 (D.start:Int)] 100
 row:w.ownsRow 0 97 4 (.slice (some ⟨gn,0,none⟩) D.nodes.length cap) D.nodes.length (ndRow adrs D.nodes)
 parts:PMs w D.ps adrs F
section
variable {w w':World} {mb gn cap:Nat} {D:DMa} {adrs:List Nat} {F:Nat→Prop} {num:Bool} {mx:Int}
theorem DmIn.kept (h:DmIn w mb D adrs F num mx gn cap) (k:Kept [] w w'):DmIn w' mb D adrs F num mx gn cap:=
 ⟨h.blk.kept k (by simp),row_stay (S:=[]) h.row k (fun _ _=>by simp),h.parts.kept k⟩
theorem DmIn.node (h:DmIn w mb D adrs F num mx gn cap) {i:Nat} {x:DN} (hx:D.nodes[i]?=some x) {j:Nat} (hj:j<4):w.cell? ⟨gn,i*4+j,none⟩=(ndCells adrs x)[j]?:=by
 have hu:∃u,(ndCells adrs x)[j]?=some u:=⟨_,List.getElem?_eq_getElem (by simp [ndCells];omega)⟩
 obtain ⟨u,hu⟩:=hu
 have:=h.row.cells (g:=gn) rfl (i*4+j) u (by rw [ndRow_get adrs _ _ _ _ hx hj];exact hu)
 rw [ptr_add] at this
 rw [this,hu]
theorem DmIn.lt (h:DmIn w mb D adrs F num mx gn cap):gn<w.heap.size:=(h.row.lt gn rfl).2
end
theorem grow_blk {w w':World} {v:Value} {base e z k:Nat} {xs:List Value} {g:Nat} {cs:Array Value} {t:TypeId} (hr:w.ownsRow base e z v k xs) (hg:w.grownBy w' v.ownBlock) (hb:Blk w g cs t) (ht:t≠e):Blk w' g cs t:=
 (hg.block g hb.lt (fun hc=>absurd (own_type hr hb hc.symm) ht)).trans hb
theorem dbegun_any {w:World} {mb gn cap:Nat} {D:DMa} {adrs:List Nat} {F:Nat→Prop} {num:Bool} {mx:Int} (h:DmIn w mb D adrs F num mx gn cap) (hn:D.nodes.length≤10000):
 Calls Tryz.prog 24 #[.pointer (some ⟨mb,0,none⟩)] w fun e w'=>RowOut w w' e (3+D.nodes.length) (fun k=>k==0):=by
 have c1:w.cell? ⟨mb,5,none⟩=some (.slice (some ⟨gn,0,none⟩) D.nodes.length cap):=h.blk.cell 5
 have hmb:=h.blk.lt
 clear h
 obtain ⟨n,hnn⟩:∃n,n=D.nodes.length:=⟨_,rfl⟩
 rw [←hnn] at c1 hn ⊢
 clear hnn
 have hmk:=make_row (3+n) (by omega)
 have e3:((3+n:Nat):Int)=3+(n:Int):=by omega
 rw [e3] at hmk
 clear e3
 have hb:Hid (Blk (w.alloc (.cells ((boolRow (3+n) (fun _=>false)).setIfInBounds 0 (.bool true)) 4)) w.heap.size (boolRow (3+n) (fun k=>k==0)) 4):=by
  show Blk _ _ _ _
  rw [boolRow_set (fun _=>false) (fun k=>k==0) 0 true (fun j hj=>by
   by_cases h:j=0
   · subst h;simp
   · rw [if_neg h];simpa using h)]
  exact Blk.new w _ _
 have hk:Hid (Kept [] w (w.alloc (.cells ((boolRow (3+n) (fun _=>false)).setIfInBounds 0 (.bool true)) 4))):=(Kept.refl [] w).alloc _
 have q1:(boolRow (3+n) (fun _=>false))[0]?=some (.bool false):=boolRow_get _ (by omega)
 unfold rowV at *
 go_enter Tryz.func24,Tryz.ntmps24
 go_wp2
 go_ret
 exact ⟨⟨_,rfl,Nat.le_refl _,hb.out⟩,hk.out⟩
theorem reached_any {w:World} {mb gn cap:Nat} {D:DMa} {adrs:List Nat} {F:Nat→Prop} {num:Bool} {mx:Int} {R:RelT} (h:DmIn w mb D adrs F num mx gn cap) (hR:MaOk D R) (hn:D.nodes.length≤10000) {gv:Nat} {f:Nat→Bool} (hv:Blk w gv (boolRow (3+D.nodes.length) f) 4) (b e:Bool):
 Calls Tryz.prog 28 #[.pointer (some ⟨mb,0,none⟩),rowV (3+D.nodes.length) gv,.bool b,.bool e] w fun e' w'=>∃o,RowOut w w' e' D.nodes.length o∧∀i,(i<D.nodes.length∧o i=true)↔Rch D (SF D.nodes.length f) (b=true) (e=true) i:=by
 obtain ⟨i0,hi0,hz0,hz1,hz2⟩:=info_parts infoInt
 have hH:Hid (DmIn _ _ _ _ _ _ _ _ _):=h
 have hvH:Hid (Blk _ _ _ _):=hv
 have hRH:Hid (MaOk _ _):=hR
 have c1:w.cell? ⟨mb,5,none⟩=some (.slice (some ⟨gn,0,none⟩) D.nodes.length cap):=h.blk.cell 5
 have hmb:=h.blk.lt
 clear h hv hR
 obtain ⟨n,hnn⟩:∃n,n=D.nodes.length:=⟨_,rfl⟩
 have hmk:=make_row n (by omega)
 have hnH:Hid (n=D.nodes.length):=hnn
 rw [←hnn] at c1 hn
 rw [←hnn]
 clear hnn
 have h0:Hid (Blk (w.alloc (.cells (boolRow n (fun _=>false)) 4)) w.heap.size (boolRow n (fun _=>false)) 4):=Blk.new w _ _
 have hk0:Hid (Kept [] w (w.alloc (.cells (boolRow n (fun _=>false)) 4))):=(Kept.refl [] w).alloc _
 unfold rowV
 go_enter Tryz.func28,Tryz.ntmps28
 go_wp2_with fail
 clear hmk c1
 go_loopw [10,11] (fun lv iv wr=>∃i:Nat,iv=.int .i64 (i:Int)∧i≤n∧wr.ownsRow w.heap.size 3 1 lv (startL D f i).length (symCells (startL D f i))∧Blk wr w.heap.size (boolRow n (fun _=>false)) 4∧Kept [] w wr) (fun _ iv _=>((n:Int)-intOf iv).toNat)
 case atStart=>exact ⟨0,rfl,Nat.zero_le _,World.ownsRow_nil _ _ _ 1,h0.out,hk0.out⟩
 case round=>
  obtain ⟨i,rfl,hi,hrow,hb,hkw⟩:=hrel
  have hrowH:Hid (World.ownsRow _ _ _ _ _ _ _):=hrow
  have hbH:Hid (Blk _ _ _ _):=hb
  have hkwH:Hid (Kept _ _ _):=hkw
  have hM:=hH.out.kept hkw
  have m5:wr.cell? ⟨mb,5,none⟩=some (.slice (some ⟨gn,0,none⟩) n cap):=by rw [hnH.out];exact hM.blk.cell 5
  have m2:wr.cell? ⟨mb,2,none⟩=some (.bool D.whole):=hM.blk.cell 2
  have m6:wr.cell? ⟨mb,6,none⟩=some (.int .i64 (D.start:Int)):=hM.blk.cell 6
  have hmb2:=hM.blk.lt
  have hv2:=hvH.out.kept hkw (by simp)
  rw [←hnH.out] at hv2
  have v0:wr.cell? ⟨gv,0,none⟩=some (.bool (f 0)):=by rw [hv2.cell,boolRow_get _ (by omega)]
  have v1:wr.cell? ⟨gv,1,none⟩=some (.bool (f 1)):=by rw [hv2.cell,boolRow_get _ (by omega)]
  have hvl:=hv2.lt
  obtain ⟨la,ll,lc,rfl⟩:=own_shape hrow
  clear h0 hk0 hM hb hkw
  by_cases hlt:(i:Int)<(n:Int)
  · have hin:i<n:=by omega
    have vi:wr.cell? ⟨gv,3+i,none⟩=some (.bool (f (3+i))):=by rw [hv2.cell,boolRow_get _ (by omega)]
    have hc:Hid (condB D f i=(f (3+i) || ((i:Int)==(D.start:Int))&&(f 0 || (f 1&&!D.whole)))):=rfl
    have hst:Hid (startL D f (i+1)=startL D f i++if condB D f i=true then [i] else []):=startL_succ i
    have hsl:=startL_len (D:=D) (f:=f) i
    clear hv2 hrow
    generalize startL D f i=L0 at *
    generalize condB D f i=C at *
    generalize f (3+i)=X at *
    generalize f 0=Y0 at *
    generalize f 1=Y1 at *
    generalize D.whole=Wh at *
    generalize (D.start:Int)=st at *
    obtain ⟨T,hT⟩:∃T,((i:Int)==st)=T:=⟨_,rfl⟩
    rw [hT] at hc
    go_upto_region 6 with fail
    go_cut [59] (fun s wx=>s=.bool C∧wx=wr)
    case first=>
     have hcc:C=_:=hc.out
     clear hc hst
     subst hcc
     cases X with
     | true=>go_wp2;go_meet;exact ⟨rfl,rfl⟩
     | false=>
       cases T with
       | false=>go_wp2;go_meet;exact ⟨rfl,rfl⟩
       | true=>
         cases Y0 with
         | true=>go_wp2;go_meet;exact ⟨rfl,rfl⟩
         | false=>
           cases Y1 with
           | false=>go_wp2;go_meet;exact ⟨rfl,rfl⟩
           | true=>cases Wh <;> (go_wp2;go_meet;exact ⟨rfl,rfl⟩)
    case rest=>
     obtain ⟨rfl,hwc⟩:=hcut
     have hwc2:=hwc.symm
     subst hwc2
     clear hc v0 v1 vi m2 m6 hT
     have hlb:L0.length≤10000:=by omega
     cases C with
     | false=>
       have e:Hid (startL D f (i+1)=L0):=by show _=_;rw [hst.out];simp
       clear hst
       go_wp2
       refine ⟨⟨i+1,by go_num,by omega,by rw [e.out];exact hrowH.out,hbH.out,hkwH.out⟩,?_⟩
       simp only [intOf];omega
     | true=>
       have e:Hid (startL D f (i+1)=L0++[i]):=by show _=_;rw [hst.out];simp
       clear hst
       have hsz:=hkwH.out.size
       go_wp2_with (at_builtin;refine wpList_append_own _ rfl (.tmp 60) (.tmp 62) 41 rfl w.heap.size 3 i0 _ 1 8 Tryz.underlying41 hi0 hz0 hz1 hz2 rfl (by decide) (.slice la ll lc) L0.length (symCells L0) rfl ?owna ⟨wr.heap.size,0,none⟩ 1 1 [.int .i64 (i:Int)] rfl rfl ?n1a ?n2a ?b1a ?b2a ?b3a ?ka)
       case owna=>exact hrowH.out.alloc _
       case n2a=>simp [Value.oneCell']
       case b1a=>unfold maxLen;omega
       case b2a=>omega
       case b3a=>first | omega | (simp;omega)
       case ka=>
        intro v5 w5 hown hgrow _
        have hB5:Hid (Blk w5 w.heap.size (boolRow n (fun _=>false)) 4):=grow_blk (hrowH.out.alloc _) hgrow (hbH.out.alloc _) (by decide)
        have hK5:Hid (Kept [] w w5):=kept_growP (hkwH.out.alloc _) (hrowH.out.alloc _) hgrow
        have hR5:Hid (w5.ownsRow w.heap.size 3 1 v5 (L0++[i]).length (symCells (L0++[i]))):=by
         show World.ownsRow _ _ _ _ _ _ _
         rw [symCells_snoc,List.length_append];exact hown
        clear hown hgrow
        go_wp2
        refine ⟨⟨i+1,by go_num,by omega,by rw [e.out];exact hR5.out,hB5.out,hK5.out⟩,?_⟩
        simp only [intOf];omega
  · obtain rfl:n=i:=by omega
    have hI0:Hid (RIn D f b e (fun _=>false) (startL D f n)):=by
     show RIn _ _ _ _ _ _
     rw [hnH.out]
     exact RIn.begin hRH.out
    clear hv2 hrow v0 v1 m2 m6 hi
    go_wp2_with fail
    clear m5
    go_loopw [10,12,13] (fun lv _ _ wr=>∃(l:List Nat) (o:Nat→Bool),wr.ownsRow w.heap.size 3 1 lv l.length (symCells l)∧Blk wr w.heap.size (boolRow n o) 4∧RIn D f b e o l∧Kept [] w wr) (fun lv _ _ wr=>3*falses wr w.heap.size+lenD lv)
    case atStart=>exact ⟨_,_,hrowH.out,hbH.out,hI0.out,hkwH.out⟩
    case round=>
     obtain ⟨l,o,hrow,hb,hI,hkw⟩:=hrel
     clear hrowH hbH hI0 hkwH hlt
     have hrowH:Hid (World.ownsRow _ _ _ _ _ _ _):=hrow
     have hbH:Hid (Blk _ _ _ _):=hb
     have hkwH:Hid (Kept _ _ _):=hkw
     have hIH:Hid (RIn _ _ _ _ _ _):=hI
     rcases List.eq_nil_or_concat l with rfl | ⟨l',k,rfl⟩
     · obtain ⟨la,ll,lc,rfl⟩:=own_shape hrow
       have hll:ll=0:=by
        rcases hrow.2 with ⟨h1,h2⟩ | ⟨g,cap',_,h1,_⟩
        · simp at h1;omega
        · simp at h1;omega
       subst hll
       clear hrow hb hkw hI
       go_wp2
       go_ret
       refine ⟨o,⟨⟨_,rfl,Nat.le_refl _,hbH.out⟩,hkwH.out⟩,fun j=>?_⟩
       have:=hIH.out.fin hRH.out j
       rw [←hnH.out] at this
       exact this
     · rw [List.concat_eq_append] at hrow hI hrowH hIH
       obtain ⟨gl,cap',rfl⟩:=own_form hrow (by simp)
       have hkn:k<n:=by rw [hnH.out];exact rch_lt hRH.out (hI.some1 k (by simp))
       obtain ⟨x,hx⟩:∃x,D.nodes[k]?=some x:=⟨_,List.getElem?_eq_getElem (by rw [←hnH.out];exact hkn)⟩
       obtain ⟨N1,hN1⟩:∃N1,N1=l'.length:=⟨_,rfl⟩
       have hl1:(l'++[k]).length=N1+1:=by rw [List.length_append,hN1];rfl
       have hsm:=hI.small
       rw [hl1,←hnH.out] at hsm
       rw [hl1] at hrow hrowH ⊢
       rw [symCells_snoc] at hrow hrowH
       have hk0:wr.cell? ⟨gl,N1,none⟩=some (.int .i64 (k:Int)):=by
        have:=hrow.cells (g:=gl) rfl N1 (.int .i64 (k:Int)) (by
         rw [List.getElem?_append_right (by simp [symCells];omega)]
         simp [symCells,hN1])
        rwa [ptr_add] at this
       have hpop:Hid (wr.ownsRow w.heap.size 3 1 (.slice (some ⟨gl,0,none⟩) N1 cap') N1 (symCells l')):=ownsRow_pop (by simp [symCells,hN1]) hrow
       have hgl:gl<wr.heap.size:=(hrow.lt gl rfl).2
       have hcap1:N1+1≤cap':=by
        rcases hrow.2 with ⟨h1,_⟩ | ⟨g,c,cur,h1,_,_,h4,_⟩
        · simp at h1
        · simp at h1;omega
       have hcap2:N1≤cap':=by omega
       have hcap3:(N1:Int)≤(cap':Int):=by omega
       have ok1:wr.cell? ⟨w.heap.size,k,none⟩=some (.bool (o k)):=by rw [hb.cell,boolRow_get _ hkn]
       have ok2:=hb.frozen k
       have ok3:=hb.lt
       have hM:=hH.out.kept hkw
       have m5:wr.cell? ⟨mb,5,none⟩=some (.slice (some ⟨gn,0,none⟩) n cap):=by rw [hnH.out];exact hM.blk.cell 5
       have hmb3:=hM.blk.lt
       have d0:wr.cell? ⟨gn,k*4,none⟩=some (.int .i64 x.kind):=hM.node hx (j:=0) (by omega)
       have d1:wr.cell? ⟨gn,k*4+1,none⟩=some (if x.kind≤3 then ptrTo adrs x.part else .pointer none):=hM.node hx (j:=1) (by omega)
       obtain ⟨pa,hpa⟩:∃pa,(if x.kind≤3 then ptrTo adrs x.part else .pointer none)=Value.pointer pa:=by
        split
        · exact ⟨_,rfl⟩
        · exact ⟨_,rfl⟩
       rw [hpa] at d1
       clear hpa
       have d2:wr.cell? ⟨gn,k*4+2,none⟩=some (.int .i64 (x.next:Int)):=hM.node hx (j:=2) (by omega)
       have d3:wr.cell? ⟨gn,k*4+3,none⟩=some (.int .i64 (x.other:Int)):=hM.node hx (j:=3) (by omega)
       have hgn:=hM.lt
       have hgn1:gn≠w.heap.size:=by have:=hH.out.lt;omega
       have hmb1:mb≠w.heap.size:=by omega
       have hxH:Hid (D.nodes[k]?=some x):=hx
       have hN1H:Hid (N1=l'.length):=hN1
       have hoB:Hid (∀y:Bool,o k=y→y=false→notIn n (updT o k)+1=notIn n o):=fun y h1 h2=>notIn_upd hkn (h1.trans h2)
       clear hM hrow hb hkw hI hrowH hl1 hx hN1
       cases ho:o k with
       | true=>
         rw [ho] at ok1
         have hI2:Hid (RIn D f b e o l'):=hIH.out.skip ho
         clear ho hoB
         go_wp2
         refine ⟨⟨l',o,by rw [←hN1H.out];exact hpop.out,hbH.out,hI2.out,hkwH.out⟩,?_⟩
         show 3*falses wr w.heap.size+N1<3*falses wr w.heap.size+(N1+1)
         omega
       | false=>
         rw [ho] at ok1
         have hI2:Hid (RIn D f b e (updT o k) (l'++sucN x b e)):=hIH.out.take ho hxH.out
         have hfal:=hoB.out false ho rfl
         clear ho hoB
         go_upto_region 14 with fail
         obtain ⟨W,hW⟩:∃W,W=((wr.setCell ⟨w.heap.size,k,none⟩ (.bool true)).alloc (.cells #[.int .i64 x.kind,.pointer pa,.int .i64 (x.next:Int),.int .i64 (x.other:Int)] 97)):=⟨_,rfl⟩
         rw [←hW]
         have hsz0:=hkwH.out.size
         have hXb:Blk W wr.heap.size #[.int .i64 x.kind,.pointer pa,.int .i64 (x.next:Int),.int .i64 (x.other:Int)] 97:=by
          rw [hW]
          have:=Blk.new (wr.setCell ⟨w.heap.size,k,none⟩ (.bool true)) #[.int .i64 x.kind,.pointer pa,.int .i64 (x.next:Int),.int .i64 (x.other:Int)] 97
          simpa [World.setCell] using this
         have hWb:Hid (Blk W w.heap.size (boolRow n (updT o k)) 4):=by
          show Blk _ _ _ _
          rw [hW]
          have:=hbH.out.set k (.bool true)
          rw [boolRow_set o (updT o k) k true (fun j _=>rfl)] at this
          exact this.alloc _
         have hWk:Hid (Kept [] w W):=by
          show Kept _ _ _
          rw [hW]
          exact (hkwH.out.setCell (Or.inr (Nat.le_refl _)) _).alloc _
         have hWr:Hid (W.ownsRow w.heap.size 3 1 (.slice (some ⟨gl,0,none⟩) N1 cap') N1 (symCells l')):=by
          show World.ownsRow _ _ _ _ _ _ _
          rw [hW]
          exact (ownsRow_setCell_other hpop.out (fun hc=>absurd (own_type hpop.out hbH.out hc) (by decide)) _).alloc _
         have x0:W.cell? ⟨wr.heap.size,0,none⟩=some (.int .i64 x.kind):=hXb.cell 0
         have x2:W.cell? ⟨wr.heap.size,2,none⟩=some (.int .i64 (x.next:Int)):=hXb.cell 2
         have x3:W.cell? ⟨wr.heap.size,3,none⟩=some (.int .i64 (x.other:Int)):=hXb.cell 3
         have xl:=hXb.lt
         have hXH:Hid (Blk W wr.heap.size #[.int .i64 x.kind,.pointer pa,.int .i64 (x.next:Int),.int .i64 (x.other:Int)] 97):=hXb
         have hWs:=hWk.out.size
         have hnb:N1≤100000:=by omega
         have hmeas:Hid (∀w5 v5,Blk w5 w.heap.size (boolRow n (updT o k)) 4→lenD v5≤N1+2→3*falses w5 w.heap.size+lenD v5<3*falses wr w.heap.size+(N1+1)):=fun w5 v5 h1 h2=>by
          rw [falses_blk h1,falses_blk hbH.out];omega
         have hsuc:Hid (sucN x b e=(if goOn x b e=true then [x.next] else [])++(if (x.kind==7)=true then [x.other] else [])):=rfl
         have hgo:Hid (goOn x b e=(x.kind==7 || (x.kind==2&&b) || (x.kind==3&&e))):=rfl
         clear hW hXb ok1 ok2 ok3 m5 hmb3 d0 d1 d2 d3 hgn hgn1 hmb1 hk0 hgl hcap1 hcap2 hcap3 hpop
         obtain ⟨T7,hT7⟩:∃T,(x.kind==7)=T:=⟨_,rfl⟩
         obtain ⟨T2,hT2⟩:∃T,(x.kind==2)=T:=⟨_,rfl⟩
         obtain ⟨T3,hT3⟩:∃T,(x.kind==3)=T:=⟨_,rfl⟩
         rw [hT7] at hsuc
         rw [hT7,hT2,hT3] at hgo
         obtain ⟨G,hG⟩:∃G,goOn x b e=G:=⟨_,rfl⟩
         rw [hG] at hsuc hgo
         clear hG
         go_cut [110] (fun s wx=>s=.bool G∧wx=W)
         case first=>
          have hcc:G=_:=hgo.out
          clear hgo hsuc
          subst hcc
          cases T7 with
          | true=>go_wp2;go_meet;exact ⟨rfl,rfl⟩
          | false=>
            cases T2 <;> cases b <;> cases T3 <;> cases e <;> (go_wp2;go_meet;exact ⟨rfl,rfl⟩)
         case rest=>
          obtain ⟨rfl,hwc⟩:=hcut
          have hwc2:=hwc.symm
          subst hwc2
          clear hT2 hT3
          cases G with
          | false=>
            cases T7 with
            | true=>exact absurd hgo.out (by simp)
            | false=>
              have hI3:Hid (RIn D f b e (updT o k) l'):=by
               have:=hI2.out
               rw [hsuc.out] at this
               show RIn _ _ _ _ _ _
               simpa using this
              clear hgo hsuc hI2
              go_wp2
              refine ⟨⟨l',updT o k,by rw [←hN1H.out];exact hWr.out,hWb.out,hI3.out,hWk.out⟩,?_⟩
              exact hmeas.out _ _ hWb.out (by show N1≤_;omega)
          | true=>
           cases T7 with
           | false=>
            have hI3:Hid (RIn D f b e (updT o k) (l'++[x.next])):=by
             have:=hI2.out
             rw [hsuc.out] at this
             show RIn _ _ _ _ _ _
             simpa using this
            clear hgo hsuc hI2
            go_wp2_with (at_builtin;go_loud (refine wpList_append_own _ rfl (.tmp 111) (.tmp 114) 41 rfl w.heap.size 3 i0 _ 1 8 Tryz.underlying41 hi0 hz0 hz1 hz2 rfl (by decide) (.slice (some ⟨gl,0,none⟩) N1 cap') N1 (symCells l') rfl ?ownb ⟨W.heap.size,0,none⟩ 1 1 [.int .i64 (x.next:Int)] rfl rfl ?n1b ?n2b ?b1b ?b2b ?b3b ?kkb))
            case ownb=>exact hWr.out.alloc _
            case n2b=>simp [Value.oneCell']
            case b1b=>unfold maxLen;omega
            case b2b=>omega
            case b3b=>first | omega | (simp;omega)
            case kkb=>
             intro v5 w5 hown hgrow _
             obtain ⟨g5,cap5,rfl⟩:=own_form hown (by omega)
             have hB5:Hid (Blk w5 w.heap.size (boolRow n (updT o k)) 4):=grow_blk (hWr.out.alloc _) hgrow (hWb.out.alloc _) (by decide)
             have hK5:Hid (Kept [] w w5):=kept_growP (hWk.out.alloc _) (hWr.out.alloc _) hgrow
             have hX5:Blk w5 wr.heap.size _ _:=grow_blk (hWr.out.alloc _) hgrow (hXH.out.alloc _) (by decide)
             have hR5:Hid (w5.ownsRow w.heap.size 3 1 (.slice (some ⟨g5,0,none⟩) (N1+1) cap5) (N1+1) (symCells (l'++[x.next]))):=by
              show World.ownsRow _ _ _ _ _ _ _
              rw [symCells_snoc];exact hown
             have y0:w5.cell? ⟨wr.heap.size,0,none⟩=some (.int .i64 x.kind):=hX5.cell 0
             have y3:w5.cell? ⟨wr.heap.size,3,none⟩=some (.int .i64 (x.other:Int)):=hX5.cell 3
             have yl:=hX5.lt
             have hs5:=hK5.out.size
             clear hown hgrow hX5 x0 x2 x3 xl hXH hWb hWk hWr
             go_wp2
             refine ⟨⟨l'++[x.next],updT o k,by rw [List.length_append,←hN1H.out];exact hR5.out,hB5.out,hI3.out,hK5.out⟩,?_⟩
             exact hmeas.out _ _ hB5.out (by show N1+1≤_;omega)
           | true=>
            have hI3:Hid (RIn D f b e (updT o k) (l'++[x.next]++[x.other])):=by
             have:=hI2.out
             rw [hsuc.out] at this
             show RIn _ _ _ _ _ _
             simpa using this
            clear hgo hsuc hI2
            go_wp2_with (at_builtin;go_loud (refine wpList_append_own _ rfl (.tmp 111) (.tmp 114) 41 rfl w.heap.size 3 i0 _ 1 8 Tryz.underlying41 hi0 hz0 hz1 hz2 rfl (by decide) (.slice (some ⟨gl,0,none⟩) N1 cap') N1 (symCells l') rfl ?ownc ⟨W.heap.size,0,none⟩ 1 1 [.int .i64 (x.next:Int)] rfl rfl ?n1c ?n2c ?b1c ?b2c ?b3c ?kkc))
            case ownc=>exact hWr.out.alloc _
            case n2c=>simp [Value.oneCell']
            case b1c=>unfold maxLen;omega
            case b2c=>omega
            case b3c=>first | omega | (simp;omega)
            case kkc=>
             intro v5 w5 hown hgrow _
             obtain ⟨g5,cap5,rfl⟩:=own_form hown (by omega)
             have hB5:Hid (Blk w5 w.heap.size (boolRow n (updT o k)) 4):=grow_blk (hWr.out.alloc _) hgrow (hWb.out.alloc _) (by decide)
             have hK5:Hid (Kept [] w w5):=kept_growP (hWk.out.alloc _) (hWr.out.alloc _) hgrow
             have hX5:Blk w5 wr.heap.size _ _:=grow_blk (hWr.out.alloc _) hgrow (hXH.out.alloc _) (by decide)
             have hR5:Hid (w5.ownsRow w.heap.size 3 1 (.slice (some ⟨g5,0,none⟩) (N1+1) cap5) (N1+1) (symCells (l'++[x.next]))):=by
              show World.ownsRow _ _ _ _ _ _ _
              rw [symCells_snoc];exact hown
             have y0:w5.cell? ⟨wr.heap.size,0,none⟩=some (.int .i64 x.kind):=hX5.cell 0
             have y3:w5.cell? ⟨wr.heap.size,3,none⟩=some (.int .i64 (x.other:Int)):=hX5.cell 3
             have yl:=hX5.lt
             have hs5:=hK5.out.size
             clear hown hgrow hX5 x0 x2 x3 xl hXH hWb hWk hWr
             go_wp2_with (at_builtin;refine wpList_append_own _ rfl (.tmp 119) (.tmp 122) 41 rfl w.heap.size 3 i0 _ 1 8 Tryz.underlying41 hi0 hz0 hz1 hz2 rfl (by decide) (.slice (some ⟨g5,0,none⟩) (N1+1) cap5) (N1+1) (symCells (l'++[x.next])) rfl ?own2d ⟨w5.heap.size,0,none⟩ 1 1 [.int .i64 (x.other:Int)] rfl rfl ?m1d ?m2d ?q1d ?q2d ?q3d ?qkd)
             case own2d=>exact hR5.out.alloc _
             case m1d=>exact cells_new _ _ _ _ rfl
             case m2d=>simp [Value.oneCell']
             case q1d=>unfold maxLen;omega
             case q2d=>omega
             case q3d=>first | omega | (simp;omega)
             case qkd=>
              intro v6 w6 hown hgrow _
              obtain ⟨g6,cap6,rfl⟩:=own_form hown (by omega)
              have hB6:Hid (Blk w6 w.heap.size (boolRow n (updT o k)) 4):=grow_blk (hR5.out.alloc _) hgrow (hB5.out.alloc _) (by decide)
              have hK6:Hid (Kept [] w w6):=kept_growP (hK5.out.alloc _) (hR5.out.alloc _) hgrow
              have hR6:Hid (w6.ownsRow w.heap.size 3 1 (.slice (some ⟨g6,0,none⟩) (N1+1+1) cap6) (N1+1+1) (symCells (l'++[x.next]++[x.other]))):=by
               show World.ownsRow _ _ _ _ _ _ _
               rw [symCells_snoc];exact hown
              clear hown hgrow y0 y3 yl hB5 hK5 hR5
              go_wp2
              refine ⟨⟨l'++[x.next]++[x.other],updT o k,by rw [List.length_append,List.length_append,←hN1H.out];exact hR6.out,hB6.out,hI3.out,hK6.out⟩,?_⟩
              exact hmeas.out _ _ hB6.out (by show N1+1+1≤_;omega)
section
variable (D:DMa) (o:Nat→Bool) (c:Nat)
def yesB (x:DN):Bool:=match D.ps[x.part]? with
 | some p=>inB p D.fold c
 | none=>false
def hitR (x:DN) (acc:Nat→Bool):Nat→Bool:=if x.kind=8∧D.whole=false then updT acc 2 else acc
def oneB (x:DN) (acc:Nat→Bool):Nat→Bool:=if x.kind=1 then (fun k=>if k=3+x.next then (acc (3+x.next) || yesB D c x) else acc k) else acc
def stepRd (i:Nat) (acc:Nat→Bool):Nat→Bool:=if o i=true then (match D.nodes[i]? with | none=>acc | some x=>oneB D c x (hitR D x acc)) else acc
def rdB (f:Nat→Bool):Nat→Nat→Bool
 | 0=>fun k=>if k=2 then f 2 else if k=1 then (f 0 || f 1) else false
 | i+1=>stepRd D o c i (rdB f i)
end
section
variable {D:DMa} {o:Nat→Bool} {c:Nat} {f:Nat→Bool}
theorem hitR_iff (x:DN) (acc:Nat→Bool) (k:Nat):hitR D x acc k=true↔acc k=true∨(k=2∧x.kind=8∧D.whole=false):=by
 unfold hitR updT
 by_cases h:x.kind=8∧D.whole=false
 · rw [if_pos h]
   by_cases hk:k=2
   · rw [if_pos hk];simp [hk,h]
   · rw [if_neg hk];simp [hk]
 · rw [if_neg h]
   constructor
   · exact Or.inl
   · rintro (h1 | ⟨_,h2,h3⟩)
     · exact h1
     · exact absurd ⟨h2,h3⟩ h
theorem oneB_iff (x:DN) (acc:Nat→Bool) (k:Nat):oneB D c x acc k=true↔acc k=true∨(k=3+x.next∧x.kind=1∧yesB D c x=true):=by
 unfold oneB
 by_cases h:x.kind=1
 · rw [if_pos h]
   by_cases hk:k=3+x.next
   · rw [if_pos hk,Bool.or_eq_true];simp [hk,h]
   · rw [if_neg hk];simp [hk]
 · rw [if_neg h];simp [h]
theorem rdB_iff:∀(i k:Nat),rdB D o c f i k=true↔(k=2∧f 2=true)∨(k=1∧(f 0=true∨f 1=true))∨∃j x,j<i∧o j=true∧D.nodes[j]?=some x∧((k=2∧x.kind=8∧D.whole=false)∨(k=3+x.next∧x.kind=1∧yesB D c x=true))
 | 0,k=>by
   show (if k=2 then f 2 else if k=1 then (f 0 || f 1) else false)=true↔_
   by_cases h2:k=2
   · subst h2
     rw [if_pos rfl]
     constructor
     · intro h;exact Or.inl ⟨rfl,h⟩
     · rintro (h | h | ⟨j,x,h,_⟩)
       · exact h.2
       · omega
       · omega
   · rw [if_neg h2]
     by_cases h1:k=1
     · subst h1
       rw [if_pos rfl,Bool.or_eq_true]
       constructor
       · intro h;exact Or.inr (Or.inl ⟨rfl,h⟩)
       · rintro (h | h | ⟨j,x,h,_⟩)
         · omega
         · exact h.2
         · omega
     · rw [if_neg h1]
       constructor
       · intro h;cases h
       · rintro (h | h | ⟨j,x,h,_⟩)
         · omega
         · omega
         · omega
 | i+1,k=>by
   have ih:=rdB_iff i
   show stepRd D o c i (rdB D o c f i) k=true↔_
   unfold stepRd
   have grow:((k=2∧f 2=true)∨(k=1∧(f 0=true∨f 1=true))∨∃j x,j<i+1∧o j=true∧D.nodes[j]?=some x∧((k=2∧x.kind=8∧D.whole=false)∨(k=3+x.next∧x.kind=1∧yesB D c x=true))) ↔
    rdB D o c f i k=true∨∃x,o i=true∧D.nodes[i]?=some x∧((k=2∧x.kind=8∧D.whole=false)∨(k=3+x.next∧x.kind=1∧yesB D c x=true)):=by
    rw [ih]
    constructor
    · rintro (h | h | ⟨j,x,h1,h2⟩)
      · exact Or.inl (Or.inl h)
      · exact Or.inl (Or.inr (Or.inl h))
      · by_cases hj:j=i
        · subst hj;exact Or.inr ⟨x,h2⟩
        · exact Or.inl (Or.inr (Or.inr ⟨j,x,by omega,h2⟩))
    · rintro ((h | h | ⟨j,x,h1,h2⟩) | ⟨x,h2⟩)
      · exact Or.inl h
      · exact Or.inr (Or.inl h)
      · exact Or.inr (Or.inr ⟨j,x,by omega,h2⟩)
      · exact Or.inr (Or.inr ⟨i,x,by omega,h2⟩)
   rw [grow]
   by_cases ho:o i=true
   · rw [if_pos ho]
     cases hx:D.nodes[i]? with
     | none=>simp
     | some x=>
       simp only []
       rw [oneB_iff,hitR_iff]
       constructor
       · rintro ((h | h) | h)
         · exact Or.inl h
         · exact Or.inr ⟨x,ho,rfl,Or.inl h⟩
         · exact Or.inr ⟨x,ho,rfl,Or.inr h⟩
       · rintro (h | ⟨y,_,h1,h⟩)
         · exact Or.inl (Or.inl h)
         · obtain rfl:=Option.some.inj h1
           rcases h with h | h
           · exact Or.inl (Or.inr h)
           · exact Or.inr h
   · rw [if_neg ho]
     constructor
     · exact Or.inl
     · rintro (h | ⟨x,h,_⟩)
       · exact h
       · exact absurd h ho
theorem yesB_iff (x:DN):yesB D c x=true↔∃p,D.ps[x.part]?=some p∧inB p D.fold c=true:=by
 unfold yesB
 cases hp:D.ps[x.part]? with
 | none=>simp
 | some p=>simp
theorem rdB_read {R:RelT} (hM:MaOk D R) (ho:∀i,(i<D.nodes.length∧o i=true)↔Rch D (SF D.nodes.length f) (f 0=true) (false=true) i):SF D.nodes.length (rdB D o c f D.nodes.length)=readS D (SF D.nodes.length f) c:=by
 have e0:(SF D.nodes.length f 0)=(f 0=true):=propext ⟨fun h=>h.2,fun h=>⟨by omega,h⟩⟩
 have e1:(False:Prop)=(false=true):=propext ⟨fun h=>h.elim,fun h=>by cases h⟩
 funext k
 apply propext
 show (k<3+D.nodes.length∧rdB D o c f D.nodes.length k=true)↔_
 rw [rdB_iff]
 match k with
 | 0=>
   constructor
   · rintro ⟨_,h | h | ⟨j,x,_,_,_,h | h⟩⟩ <;> omega
   · intro h;exact h.elim
 | 1=>
   constructor
   · rintro ⟨_,h | h | ⟨j,x,_,_,_,h | h⟩⟩
     · omega
     · rcases h.2 with h | h
       · exact Or.inl ⟨by omega,h⟩
       · exact Or.inr ⟨by omega,h⟩
     · omega
     · omega
   · rintro (h | h)
     · exact ⟨by omega,Or.inr (Or.inl ⟨rfl,Or.inl h.2⟩)⟩
     · exact ⟨by omega,Or.inr (Or.inl ⟨rfl,Or.inr h.2⟩)⟩
 | 2=>
   constructor
   · rintro ⟨_,h | h | ⟨j,x,h1,h2,h3,h | h⟩⟩
     · exact Or.inl ⟨by omega,h.2⟩
     · omega
     · refine Or.inr ⟨h.2.2,j,x,?_,h3,h.2.1⟩
       rw [e0,e1]
       exact (ho j).1 ⟨h1,h2⟩
     · omega
   · rintro (h | ⟨h1,j,x,h2,h3,h4⟩)
     · exact ⟨by omega,Or.inl ⟨rfl,h.2⟩⟩
     · rw [e0,e1] at h2
       obtain ⟨g1,g2⟩:=(ho j).2 h2
       exact ⟨by omega,Or.inr (Or.inr ⟨j,x,g1,g2,h3,Or.inl ⟨rfl,h4,h1⟩⟩)⟩
 | q+3=>
   constructor
   · rintro ⟨_,h | h | ⟨j,x,h1,h2,h3,h | h⟩⟩
     · omega
     · omega
     · omega
     · obtain ⟨p,hp1,hp2⟩:=(yesB_iff x).1 h.2.2
       refine ⟨j,x,p,?_,h3,h.2.1,by omega,hp1,hp2⟩
       rw [e0,e1]
       exact (ho j).1 ⟨h1,h2⟩
   · rintro ⟨j,x,p,h1,h2,h3,h4,h5,h6⟩
     rw [e0,e1] at h1
     obtain ⟨g1,g2⟩:=(ho j).2 h1
     have:=(hM.next_lt h2 (by omega)).1
     exact ⟨by omega,Or.inr (Or.inr ⟨j,x,g1,g2,h2,Or.inr ⟨by omega,h3,(yesB_iff x).2 ⟨p,h5,h6⟩⟩⟩)⟩
end
end Go.Proofs.YtgifhgnccmnbiabGreat
