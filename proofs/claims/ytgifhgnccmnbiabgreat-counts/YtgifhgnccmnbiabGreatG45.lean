/- The document's answer: the pattern's part of all rules, walked. -/
import Derived.Test.YtgifhgnccmnbiabGreatG44
set_option linter.unusedVariables false
set_option linter.unusedSimpArgs false
set_option maxHeartbeats 4000000
set_option maxRecDepth 100000
namespace Go.Proofs.YtgifhgnccmnbiabGreat
open Go.RowKit Go.IntWalk
theorem head_mem {x:List Nat} {c:Nat} (h:c∈headL x):c∈x:=by
 unfold headL at h
 split at h
 · exact h
 · rename_i hc
   have key:∀(X u:List Nat),∀l,l∈(crA u X).1→∀c,c∈l→c∈u∨c∈X:=by
    intro X
    induction X with
    | nil=>intro u l hl;rw [crA_nil] at hl;cases hl
    | cons d X ih=>
      intro u l hl c hc
      by_cases hd:d=10
      · subst hd
        rw [crA_nl] at hl
        rcases List.mem_cons.1 hl with rfl | hl
        · exact Or.inl hc
        · rcases ih [] l hl c hc with h | h
          · cases h
          · exact Or.inr (List.mem_cons_of_mem _ h)
      · rw [crA_c hd] at hl
        rcases ih _ l hl c hc with h | h
        · rcases List.mem_append.1 h with h | h
          · exact Or.inl h
          · obtain rfl:=List.mem_singleton.1 h
            exact Or.inr (List.mem_cons_self ..)
        · exact Or.inr (List.mem_cons_of_mem _ h)
   cases hx:compL x with
   | nil=>exact absurd hx hc
   | cons a l=>
     rw [hx] at h
     rcases key x [] a (by rw [show (crA [] x).1=compL x from rfl,hx];exact List.mem_cons_self ..) c h with h2 | h2
     · cases h2
     · exact h2
theorem rest_mem {x:List Nat} {c:Nat} (h:c∈restL x):c∈x:=by
 have key:∀(X u:List Nat),∀c,c∈(crA u X).2→c∈u∨c∈X:=by
  intro X
  induction X with
  | nil=>intro u c hc;rw [crA_nil] at hc;exact Or.inl hc
  | cons d X ih=>
    intro u c hc
    by_cases hd:d=10
    · subst hd
      rw [crA_nl] at hc
      rcases ih [] c hc with h | h
      · cases h
      · exact Or.inr (List.mem_cons_of_mem _ h)
    · rw [crA_c hd] at hc
      rcases ih _ c hc with h | h
      · rcases List.mem_append.1 h with h | h
        · exact Or.inl h
        · obtain rfl:=List.mem_singleton.1 h
          exact Or.inr (List.mem_cons_self ..)
      · exact Or.inr (List.mem_cons_of_mem _ h)
 rcases key x [] c h with h | h
 · cases h
 · exact h
section
variable {w:World} {D:DMa} {sel:List Nat→Bool} {X Y:List Nat} {a3 a4 b3 b4:Value} {ac bc:Nat}
theorem PcM.joinA (hA:PcM w D sel X a3 a4 ac) (hB:PcM w D sel Y b3 b4 bc) (hx:compL X=[]) {v:Value} {rows:List Nat} {V:Nat→Nat→Bool} (h1:rows.length=3+D.nodes.length) (h2:Tab w 0 v (3+D.nodes.length) rows V) (h3:WayIs D (X++headL Y) V):PcM w D sel (X++Y) v b4 (capS ac bc):=by
 refine ⟨⟨rows,V,h1,h2,by rw [head_app,if_pos hx];exact h3⟩,?_,?_⟩
 · rcases hB.rest with ⟨g1,g2⟩ | ⟨g1,g2⟩
   · exact Or.inl ⟨comp_app_none.2 ⟨hx,g1⟩,g2⟩
   · refine Or.inr ⟨fun h=>g1 (comp_app_none.1 h).2,?_⟩
     rw [rest_app,if_neg g1];exact g2
 · rw [hA.count,hB.count,cnt_app_no (Or.inl hx)]
theorem PcM.joinB (hA:PcM w D sel X a3 a4 ac) (hB:PcM w D sel Y b3 b4 bc) (hx:compL X≠[]) (hy:compL Y=[]) {g:Nat} {f:Nat→Bool} (h1:Blk w g (boolRow (3+D.nodes.length) f) 4) (h2:SF D.nodes.length f=runD D (restL X++headL Y) (sgl 0)):PcM w D sel (X++Y) a3 (rowV (3+D.nodes.length) g) (capS ac bc):=by
 refine ⟨?_,Or.inr ⟨fun h=>hx (comp_app_none.1 h).1,g,f,rfl,h1,?_⟩,?_⟩
 · obtain ⟨rows,W,q1,q2,q3⟩:=hA.way
   exact ⟨rows,W,q1,q2,by rw [head_app,if_neg hx];exact q3⟩
 · rw [rest_app,if_pos hy,h2]
   unfold headL
   rw [if_pos hy]
 · rw [hA.count,hB.count,cnt_app_no (Or.inr (Or.inl hy))]
theorem PcM.joinC (hA:PcM w D sel X a3 a4 ac) (hB:PcM w D sel Y b3 b4 bc) (hx:compL X≠[]) (hy:compL Y≠[]) {c:Nat} (hc:c=if sel (restL X++headL Y)=true then capS (capS ac bc) 1 else capS ac bc):PcM w D sel (X++Y) a3 b4 c:=by
 refine ⟨?_,?_,?_⟩
 · obtain ⟨rows,W,q1,q2,q3⟩:=hA.way
   exact ⟨rows,W,q1,q2,by rw [head_app,if_neg hx];exact q3⟩
 · rcases hB.rest with ⟨g1,g2⟩ | ⟨g1,g2⟩
   · exact absurd g1 hy
   · refine Or.inr ⟨fun h=>g1 (comp_app_none.1 h).2,?_⟩
     rw [rest_app,if_neg g1];exact g2
 · rw [hc,hA.count,hB.count]
   by_cases hs:sel (restL X++headL Y)=true
   · rw [if_pos hs,cnt_app_yes hx hy hs]
   · rw [if_neg hs,cnt_app_no (Or.inr (Or.inr (by simpa using hs)))]
theorem PcM.meet (hA:PcM w D sel X a3 a4 ac) (hx:compL X≠[]):∃g f,a4=rowV (3+D.nodes.length) g∧Blk w g (boolRow (3+D.nodes.length) f) 4∧SF D.nodes.length f=runD D (restL X) (sgl 0):=by
 rcases hA.rest with ⟨g1,_⟩ | ⟨_,g,f,g2⟩
 · exact absurd g1 hx
 · exact ⟨g,f,g2⟩
end
set_option maxHeartbeats 8000000 in
theorem dlearn_any {w:World} {b mb gn cap base:Nat} {kv nv rv tv pv:Value} {rl top:List Nat} {ps:List PI} {U:Nat→Nat→Value} {T:List (List Nat)} {D:DMa} {sel:List Nat→Bool} {adrs:List Nat} {F:Nat→Prop} {num:Bool} {mx:Int} {R:RelT}
 (hG:GLn w b kv nv rv tv pv rl top T.length U) (hL:Learned w D sel T U 0) (hS:RSound rl ps T) (hT:T.length≤1000) (hM:DmIn w mb D adrs F num mx gn cap) (hR:MaOk D R) (hn:D.nodes.length≤10000) (hsel:SelD D sel) (hby:∀i,i<T.length→∀c,c∈T.getD i []→c<256)
 (hpl:∃a c,pv=.slice a T.length c) (hbase:∀gp n c,pv=.slice (some ⟨gp,0,none⟩) n c→base≤gp) (hbw:base≤w.heap.size):
 Calls Tryz.prog 23 #[.pointer (some ⟨b,0,none⟩),.pointer (some ⟨mb,0,none⟩)] w fun e w'=>e=.returned (.tuple #[])∧∃U',GLn w' b kv nv rv tv pv rl top T.length U'∧Learned w' D sel T U' T.length∧StayT w w'∧Below base w w':=by
 obtain ⟨pa,pc,rfl⟩:=hpl
 have hGH:Hid (GLn _ _ _ _ _ _ _ _ _ _ _):=hG
 have hLH:Hid (Learned _ _ _ _ _ _):=hL
 have hMH:Hid (DmIn _ _ _ _ _ _ _ _ _):=hM
 have hRH:Hid (MaOk _ _):=hR
 have hSH:Hid (RSound _ _ _):=hS
 have hselH:Hid (SelD _ _):=hsel
 have hbyH:Hid (∀i,_):=hby
 have hbaseH:Hid (∀gp n c,_):=hbase
 have hs0:Hid (StayT w w):=StayT.refl w
 have hb0:Hid (Below base w w):=Below.refl _ _
 clear hG hL hM hR hS hsel hby hbase
 obtain ⟨m,hm⟩:∃m,m=T.length:=⟨_,rfl⟩
 rw [←hm] at hGH hT hbyH
 rw [←hm]
 have hmH:Hid (m=T.length):=hm
 clear hm
 go_enter Tryz.func23,Tryz.ntmps23
 go_wp2_with fail
 go_loopw [4,5,6,7,8,9] (fun iv _ _ _ _ _ wr=>∃(k:Nat) (U':Nat→Nat→Value),iv=.int .i64 (k:Int)∧k≤m∧GLn wr b kv nv rv tv (.slice pa m pc) rl top m U'∧Learned wr D sel T U' k∧StayT w wr∧Below base w wr) (fun iv _ _ _ _ _ _=>((m:Int)-intOf iv).toNat)
 case atStart=>exact ⟨0,U,rfl,Nat.zero_le _,hGH.out,hLH.out,hs0.out,hb0.out⟩
 case round=>
  obtain ⟨k,U',rfl,hk,hG,hL,hst,hbl⟩:=hrel
  have hG2:Hid (GLn _ _ _ _ _ _ _ _ _ _ _):=hG
  have hL2:Hid (Learned _ _ _ _ _ _):=hL
  have hst2:Hid (StayT w wr):=hst
  have hbl2:Hid (Below base w wr):=hbl
  have c4:wr.cell? ⟨b,4,none⟩=some (.slice pa m pc):=hG.blk.cell 4
  have c2:wr.cell? ⟨b,2,none⟩=some rv:=hG.blk.cell 2
  have hbx:=hG.blk.lt
  have hM2:Hid (DmIn wr mb D adrs F num mx gn cap):=hMH.out.stayT hst
  clear hGH hLH hs0 hb0 hL hst hbl
  by_cases hlt:(k:Int)<(m:Int)
  · have hkT:k<T.length:=by rw [←hmH.out];omega
    obtain ⟨u1,u2,u3⟩:=hSH.out.rule k hkT
    obtain ⟨gp,cap6,cur6,hpe,_,_⟩:=hG.pcs (by omega)
    cases hpe
    obtain ⟨gr,rcap,rfl⟩:=own_form hG.rules (by have:=hSH.out.len;omega)
    have hrlen:=hSH.out.len
    rw [←hmH.out] at hrlen
    have r0:wr.cell? ⟨gr,2*k,none⟩=some (.int .i64 ((rl.getD (2*k) 0:Nat):Int)):=by
     have:=hG.rules.cells (g:=gr) rfl (2*k) _ (symCells_get rl (2*k) (by omega))
     rwa [ptr_add] at this
    have r1:wr.cell? ⟨gr,2*k+1,none⟩=some (.int .i64 ((rl.getD (2*k+1) 0:Nat):Int)):=by
     have:=hG.rules.cells (g:=gr) rfl (2*k+1) _ (symCells_get rl (2*k+1) (by omega))
     rwa [ptr_add] at this
    rw [hrlen] at c2
    have hkn:Hid (∀s w',Kept [] wr w'→s<256+k→Calls _ _ _ w' _):=fun s w' kk hs=>known_any ((hmH.out ▸ hG2.out).kept kk) (hL2.out.kept kk) (Nat.le_of_lt hkT) (by rw [←hmH.out];exact hT) (hM2.out.kept kk) hRH.out hn hs
    generalize rl.getD (2*k) 0=la at *
    generalize rl.getD (2*k+1) 0=ra at *
    have hka:=hkn.out la wr (Kept.refl _ _) u1
    have hkaH:Hid (Calls _ _ _ _ _):=hka
    have hkb:Hid (∀w',Kept [] wr w'→Calls _ _ _ w' _):=fun w' kk=>hkn.out ra w' kk u2
    have hXY:Hid (T.getD k []=symT T la++symT T ra):=u3
    clear hG hka hkn u1 u2 u3 hrlen
    generalize symT T la=X at *
    generalize symT T ra=Y at *
    have hjn:Hid (∀w' a4 m4 k4 a5 m5 k5 a6 b4 n4 l4 b5 n5 l5 b6,Calls Tryz.prog 45 #[.agg #[.int .i64 ((piOf X).long:Int),.int .i64 ((piOf X).ends:Int),.int .i64 ((piOf X).tail:Int),.slice a4 m4 k4,.slice a5 m5 k5,.int .i64 a6],.agg #[.int .i64 ((piOf Y).long:Int),.int .i64 ((piOf Y).ends:Int),.int .i64 ((piOf Y).tail:Int),.slice b4 n4 l4,.slice b5 n5 l5,.int .i64 b6]] w' fun e w''=>e=.returned (piOf (X++Y)).val∧Kept [] w' w''):=fun w' a4 m4 k4 a5 m5 k5 a6 b4 n4 l4 b5 n5 l5 b6=>by
     have:=joined_gen (piOf X) (piOf Y) (piOf_small X) (piOf_small Y) a4 a5 b4 b5 m4 k4 m5 k5 n4 l4 n5 l5 a6 b6 w'
     rw [joined_piOf] at this
     exact this
    have hlx:Hid (∀c,c∈X++Y→c<256):=by
     have:=hbyH.out k (by omega)
     rw [hXY.out] at this
     exact this
    have hex:=comp_ends X
    have hey:=comp_ends Y
    --BODY
    have hgr:gr<wr.heap.size:=World.block_lt_of_cell? _ _ r1
    go_wp2_with fail
    refine hkaH.out.mono ?_
    rintro e w1 ⟨⟨⟨x4,m4,k4⟩,⟨x5,m5,k5⟩,ac,rfl,hPA⟩,k1⟩
    unfold uArr ivV
    simp only []
    have hK1:Hid (Kept [] wr w1):=k1
    have hPAH:Hid (PcM w1 D sel X (.slice x4 m4 k4) (.slice x5 m5 k5) ac):=hPA
    clear hkaH k1 hPA
    go_upto_region 4 with fail
    obtain ⟨ya,hya⟩:∃y,y=w1.alloc (.cells #[.int .i64 ((piOf X).long:Int),.int .i64 ((piOf X).ends:Int),.int .i64 ((piOf X).tail:Int),.slice x4 m4 k4,.slice x5 m5 k5,.int .i64 (ac:Int)] 92):=⟨_,rfl⟩
    rw [←hya]
    have hA:Hid (Blk ya w1.heap.size #[.int .i64 ((piOf X).long:Int),.int .i64 ((piOf X).ends:Int),.int .i64 ((piOf X).tail:Int),.slice x4 m4 k4,.slice x5 m5 k5,.int .i64 (ac:Int)] 92):=by show Blk _ _ _ _;rw [hya];exact Blk.new w1 _ _
    have k1a:Kept [] w1 ya:=by rw [hya];exact (Kept.refl [] w1).alloc _
    have hkA:Hid (Kept [] wr ya):=hK1.out.trans k1a
    have hPA2:Hid (PcM ya D sel X (.slice x4 m4 k4) (.slice x5 m5 k5) ac):=hPAH.out.kept k1a
    have hsz1:Hid (wr.heap.size≤w1.heap.size):=hK1.out.size
    have c2':ya.cell? ⟨b,2,none⟩=some (.slice (some ⟨gr,0,none⟩) (2*m) rcap):=(hkA.out.cell' hbx 2).trans c2
    have r1':ya.cell? ⟨gr,2*k+1,none⟩=some (.int .i64 (ra:Int)):=(hkA.out.cell' hgr _).trans r1
    clear hya k1a hK1 hPAH r0 c2 r1
    go_wp2_with fail
    refine (hkb.out _ hkA.out).mono ?_
    rintro e w2 ⟨⟨⟨y4,n4,l4⟩,⟨y5,n5,l5⟩,bc,rfl,hPB⟩,k2⟩
    unfold uArr ivV
    simp only []
    have hPAH:Hid (PcM w2 D sel X (.slice x4 m4 k4) (.slice x5 m5 k5) ac):=hPA2.out.kept k2
    have hPBH:Hid (PcM w2 D sel Y (.slice y4 n4 l4) (.slice y5 n5 l5) bc):=hPB
    have hAB:Hid (Blk w2 w1.heap.size #[.int .i64 ((piOf X).long:Int),.int .i64 ((piOf X).ends:Int),.int .i64 ((piOf X).tail:Int),.slice x4 m4 k4,.slice x5 m5 k5,.int .i64 (ac:Int)] 92):=hA.out.kept k2 (by simp)
    have hkB:Hid (Kept [] wr w2):=hkA.out.trans k2
    have hsz2:Hid (w1.heap.size<w2.heap.size):=hAB.out.lt
    clear hkb k2 hPB hA hkA hPA2 c2' r1'
    go_upto_region 5 with fail
    obtain ⟨yb,hyb⟩:∃y,y=w2.alloc (.cells #[.int .i64 ((piOf Y).long:Int),.int .i64 ((piOf Y).ends:Int),.int .i64 ((piOf Y).tail:Int),.slice y4 n4 l4,.slice y5 n5 l5,.int .i64 (bc:Int)] 92):=⟨_,rfl⟩
    rw [←hyb]
    have hB:Hid (Blk yb w2.heap.size #[.int .i64 ((piOf Y).long:Int),.int .i64 ((piOf Y).ends:Int),.int .i64 ((piOf Y).tail:Int),.slice y4 n4 l4,.slice y5 n5 l5,.int .i64 (bc:Int)] 92):=by show Blk _ _ _ _;rw [hyb];exact Blk.new w2 _ _
    have k2b:Kept [] w2 yb:=by rw [hyb];exact (Kept.refl [] w2).alloc _
    have hA3:Hid (Blk yb w1.heap.size #[.int .i64 ((piOf X).long:Int),.int .i64 ((piOf X).ends:Int),.int .i64 ((piOf X).tail:Int),.slice x4 m4 k4,.slice x5 m5 k5,.int .i64 (ac:Int)] 92):=hAB.out.kept k2b (by simp)
    have hPA3:Hid (PcM yb D sel X (.slice x4 m4 k4) (.slice x5 m5 k5) ac):=hPAH.out.kept k2b
    have hPB3:Hid (PcM yb D sel Y (.slice y4 n4 l4) (.slice y5 n5 l5) bc):=hPBH.out.kept k2b
    have hkB3:Hid (Kept [] wr yb):=hkB.out.trans k2b
    clear hyb k2b hAB hPAH hPBH hkB
    obtain ⟨a0,a1,a2,a3,a4,a5,al⟩:=all6 hA3.out
    obtain ⟨b0,b1,b2,b3,b4,b5,bl⟩:=all6 hB.out
    go_wp2_with fail
    refine (hjn.out _ _ _ _ _ _ _ _ _ _ _ _ _ _ _).mono ?_
    rintro e w3 ⟨rfl,k3⟩
    unfold PI.val PI.arr
    clear a0 a1 a2 a3 a4 a5 al b0 b1 b2 b3 b4 b5 bl
    go_upto_region 6 with fail
    obtain ⟨y,hy⟩:∃y,y=w3.alloc (.cells #[.int .i64 ((piOf (X++Y)).long:Int),.int .i64 ((piOf (X++Y)).ends:Int),.int .i64 ((piOf (X++Y)).tail:Int),.slice none 0 0,.slice none 0 0,.int .i64 0] 92):=⟨_,rfl⟩
    rw [←hy]
    have k3y:Kept [] yb y:=by rw [hy];exact k3.alloc _
    have hTri:Hid (TriP wr y w1.heap.size w2.heap.size w3.heap.size #[.int .i64 ((piOf X).long:Int),.int .i64 ((piOf X).ends:Int),.int .i64 ((piOf X).tail:Int),.slice x4 m4 k4,.slice x5 m5 k5,.int .i64 (ac:Int)] #[.int .i64 ((piOf Y).long:Int),.int .i64 ((piOf Y).ends:Int),.int .i64 ((piOf Y).tail:Int),.slice y4 n4 l4,.slice y5 n5 l5,.int .i64 (bc:Int)] #[.int .i64 ((piOf (X++Y)).long:Int),.int .i64 ((piOf (X++Y)).ends:Int),.int .i64 ((piOf (X++Y)).tail:Int),.slice none 0 0,.slice none 0 0,.int .i64 0]):=
     ⟨hkB3.out.trans k3y,hA3.out.kept k3y (by simp),hB.out.kept k3y (by simp),by rw [hy];exact Blk.new w3 _ _,hsz1.out,hsz2.out,by have h1:=hB.out.lt;have h2:=k3.size;omega⟩
    have hPA4:Hid (PcM y D sel X (.slice x4 m4 k4) (.slice x5 m5 k5) ac):=hPA3.out.kept k3y
    have hPB4:Hid (PcM y D sel Y (.slice y4 n4 l4) (.slice y5 n5 l5) bc):=hPB3.out.kept k3y
    clear hy k3y k3 hjn hkB3 hA3 hB hPA3 hPB3 hsz1 hsz2
    obtain ⟨a0,a1,a2,a3,a4,a5,al⟩:=all6 hTri.out.a
    obtain ⟨b0,b1,b2,b3,b4,b5,bl⟩:=all6 hTri.out.b
    obtain ⟨c0,c1,c2,c3,c4,c5,cl⟩:=all6 hTri.out.c
    obtain ⟨f0,f1,f2,f3,f4,f5⟩:=froz6 hTri.out.c
    go_upto_region 7 with fail
    obtain ⟨z,hz⟩:∃z,z=y.setCell ⟨w3.heap.size,3,none⟩ (.slice x4 m4 k4):=⟨_,rfl⟩
    rw [←hz]
    obtain ⟨t1,t2⟩:=hTri.out.set 3 (.slice x4 m4 k4)
    rw [←hz] at t1 t2
    have hT2:Hid (TriP wr z w1.heap.size w2.heap.size w3.heap.size #[.int .i64 ((piOf X).long:Int),.int .i64 ((piOf X).ends:Int),.int .i64 ((piOf X).tail:Int),.slice x4 m4 k4,.slice x5 m5 k5,.int .i64 (ac:Int)] #[.int .i64 ((piOf Y).long:Int),.int .i64 ((piOf Y).ends:Int),.int .i64 ((piOf Y).tail:Int),.slice y4 n4 l4,.slice y5 n5 l5,.int .i64 (bc:Int)] #[.int .i64 ((piOf (X++Y)).long:Int),.int .i64 ((piOf (X++Y)).ends:Int),.int .i64 ((piOf (X++Y)).tail:Int),.slice x4 m4 k4,.slice none 0 0,.int .i64 0]):=t1
    have hPA5:Hid (PcM z D sel X (.slice x4 m4 k4) (.slice x5 m5 k5) ac):=hPA4.out.stayT t2
    have hPB5:Hid (PcM z D sel Y (.slice y4 n4 l4) (.slice y5 n5 l5) bc):=hPB4.out.stayT t2
    have hS5:Hid (StayT wr z):=(StayT.of hTri.out.k).trans t2
    have hbo:Hid (∀w',Calls _ _ _ w' _):=fun w'=>pboth_any ac bc (by rw [hPA5.out.count];exact capL_le _) (by rw [hPB5.out.count];exact capL_le _) w'
    clear a0 a1 a2 a3 a4 a5 al b0 b1 b2 b3 b4 b5 bl c0 c1 c2 c3 c4 c5 cl f0 f1 f2 f3 f4 f5
    clear hz t1 t2 hTri hPA4 hPB4
    have t7:Hid ((compL X=[]→(((piOf X).ends:Int)==0)=true∧¬((0:Int)<((piOf X).ends:Int)))∧(¬compL X=[]→(((piOf X).ends:Int)==0)=false∧(0:Int)<((piOf X).ends:Int))):=
     ⟨fun h=>by rw [hex.2 h];exact ⟨rfl,by decide⟩,fun h=>by have:(piOf X).ends≠0:=fun e=>h (hex.1 e);exact ⟨beq_eq_false_iff_ne.2 (by omega),by omega⟩⟩
    have t14:Hid ((compL Y=[]→¬((0:Int)<((piOf Y).ends:Int)))∧(¬compL Y=[]→(0:Int)<((piOf Y).ends:Int))):=
     ⟨fun h=>by rw [hey.2 h];decide,fun h=>by have:(piOf Y).ends≠0:=fun e=>h (hey.1 e);omega⟩
    clear hex hey
    generalize ((piOf X).ends:Int)=EX at *
    generalize ((piOf Y).ends:Int)=EY at *
    by_cases hx:compL X=[]
    · obtain ⟨t7a,t11⟩:=t7.out.1 hx
      obtain ⟨ra',A',qa1,qa2,qa3⟩:=hPA5.out.way
      obtain ⟨rb',B',qb1,qb2,qb3⟩:=hPB5.out.way
      have hbe:Hid (Calls _ _ _ z _):=behind_any (by omega) (by omega) qa2 qa1 qb2 qb1
      have hh:headL X=X:=if_pos hx
      have hWv:=qa3.then qb3
      rw [hh] at hWv
      have hWvH:Hid (WayIs D (X++headL Y) _):=hWv
      clear qa1 qa2 qa3 qb1 qb2 qb3 hWv hh
      obtain ⟨a0,a1,a2,a3,a4,a5,al⟩:=all6 hT2.out.a
      obtain ⟨b0,b1,b2,b3,b4,b5,bl⟩:=all6 hT2.out.b
      obtain ⟨c0,c1,c2,c3,c4,c5,cl⟩:=all6 hT2.out.c
      obtain ⟨f0,f1,f2,f3,f4,f5⟩:=froz6 hT2.out.c
      go_wp2_with fail
      refine hbe.out.mono ?_
      rintro e w5 ⟨⟨v,rows,rfl,hrl,htab⟩,kq⟩
      obtain ⟨vg,vcap,rfl,_,_⟩:=htab.head (by omega)
      rw [hrl] at htab ⊢
      have htH:Hid (Tab w5 0 _ _ _ _):=htab.mono (Nat.zero_le _)
      have hrlH:Hid (_=_):=hrl
      clear a0 a1 a2 a3 a4 a5 al b0 b1 b2 b3 b4 b5 bl c0 c1 c2 c3 c4 c5 cl f0 f1 f2 f3 f4 f5
      clear htab hrl hbe
      have hT6:Hid (TriP wr w5 w1.heap.size w2.heap.size w3.heap.size #[.int .i64 ((piOf X).long:Int),.int .i64 EX,.int .i64 ((piOf X).tail:Int),.slice x4 m4 k4,.slice x5 m5 k5,.int .i64 (ac:Int)] #[.int .i64 ((piOf Y).long:Int),.int .i64 EY,.int .i64 ((piOf Y).tail:Int),.slice y4 n4 l4,.slice y5 n5 l5,.int .i64 (bc:Int)] #[.int .i64 ((piOf (X++Y)).long:Int),.int .i64 ((piOf (X++Y)).ends:Int),.int .i64 ((piOf (X++Y)).tail:Int),.slice x4 m4 k4,.slice none 0 0,.int .i64 0]):=hT2.out.more kq
      have hPA6:Hid (PcM w5 D sel X (.slice x4 m4 k4) (.slice x5 m5 k5) ac):=hPA5.out.kept kq
      have hPB6:Hid (PcM w5 D sel Y (.slice y4 n4 l4) (.slice y5 n5 l5) bc):=hPB5.out.kept kq
      have hS6:Hid (StayT wr w5):=hS5.out.trans (StayT.of kq)
      clear kq hT2 hPA5 hPB5 hS5
      obtain ⟨a0,a1,a2,a3,a4,a5,al⟩:=all6 hT6.out.a
      obtain ⟨b0,b1,b2,b3,b4,b5,bl⟩:=all6 hT6.out.b
      obtain ⟨c0,c1,c2,c3,c4,c5,cl⟩:=all6 hT6.out.c
      obtain ⟨f0,f1,f2,f3,f4,f5⟩:=froz6 hT6.out.c
      go_upto_region 9 with fail
      obtain ⟨z7,hz⟩:∃zz,zz=w5.setCell ⟨w3.heap.size,3,none⟩ (.slice (some ⟨vg,0,none⟩) (3+D.nodes.length) vcap):=⟨_,rfl⟩
      rw [←hz]
      obtain ⟨t1,t2⟩:=hT6.out.set 3 (.slice (some ⟨vg,0,none⟩) (3+D.nodes.length) vcap)
      rw [←hz] at t1 t2
      have hT7:Hid (TriP wr z7 w1.heap.size w2.heap.size w3.heap.size #[.int .i64 ((piOf X).long:Int),.int .i64 EX,.int .i64 ((piOf X).tail:Int),.slice x4 m4 k4,.slice x5 m5 k5,.int .i64 (ac:Int)] #[.int .i64 ((piOf Y).long:Int),.int .i64 EY,.int .i64 ((piOf Y).tail:Int),.slice y4 n4 l4,.slice y5 n5 l5,.int .i64 (bc:Int)] #[.int .i64 ((piOf (X++Y)).long:Int),.int .i64 ((piOf (X++Y)).ends:Int),.int .i64 ((piOf (X++Y)).tail:Int),.slice (some ⟨vg,0,none⟩) (3+D.nodes.length) vcap,.slice none 0 0,.int .i64 0]):=t1
      have hPA7:Hid (PcM z7 D sel X (.slice x4 m4 k4) (.slice x5 m5 k5) ac):=hPA6.out.stayT t2
      have hPB7:Hid (PcM z7 D sel Y (.slice y4 n4 l4) (.slice y5 n5 l5) bc):=hPB6.out.stayT t2
      have hS7:Hid (StayT wr z7):=hS6.out.trans t2
      have ht7:=htH.out.stayT t2
      have htH7:Hid (Tab z7 0 _ _ _ _):=ht7
      clear ht7 htH
      clear a0 a1 a2 a3 a4 a5 al b0 b1 b2 b3 b4 b5 bl c0 c1 c2 c3 c4 c5 cl f0 f1 f2 f3 f4 f5
      clear hz t1 t2 hT6 hPA6 hPB6 hS6
      obtain ⟨a0,a1,a2,a3,a4,a5,al⟩:=all6 hT7.out.a
      obtain ⟨b0,b1,b2,b3,b4,b5,bl⟩:=all6 hT7.out.b
      obtain ⟨c0,c1,c2,c3,c4,c5,cl⟩:=all6 hT7.out.c
      obtain ⟨f0,f1,f2,f3,f4,f5⟩:=froz6 hT7.out.c
      go_wp2_with fail
      refine (hbo.out _).mono ?_
      rintro e wq ⟨rfl,hwq⟩
      have hwq2:=hwq.symm
      subst hwq2
      clear a0 a1 a2 a3 a4 a5 al b0 b1 b2 b3 b4 b5 bl c0 c1 c2 c3 c4 c5 cl f0 f1 f2 f3 f4 f5
      obtain ⟨a0,a1,a2,a3,a4,a5,al⟩:=all6 hT7.out.a
      obtain ⟨b0,b1,b2,b3,b4,b5,bl⟩:=all6 hT7.out.b
      obtain ⟨c0,c1,c2,c3,c4,c5,cl⟩:=all6 hT7.out.c
      obtain ⟨f0,f1,f2,f3,f4,f5⟩:=froz6 hT7.out.c
      go_upto_region 10 with fail
      obtain ⟨z8,hz⟩:∃zz,zz=z7.setCell ⟨w3.heap.size,5,none⟩ (.int .i64 (capS ac bc:Int)):=⟨_,rfl⟩
      rw [←hz]
      obtain ⟨t1,t2⟩:=hT7.out.set 5 (.int .i64 (capS ac bc:Int))
      rw [←hz] at t1 t2
      have hT8:Hid (TriP wr z8 w1.heap.size w2.heap.size w3.heap.size #[.int .i64 ((piOf X).long:Int),.int .i64 EX,.int .i64 ((piOf X).tail:Int),.slice x4 m4 k4,.slice x5 m5 k5,.int .i64 (ac:Int)] #[.int .i64 ((piOf Y).long:Int),.int .i64 EY,.int .i64 ((piOf Y).tail:Int),.slice y4 n4 l4,.slice y5 n5 l5,.int .i64 (bc:Int)] #[.int .i64 ((piOf (X++Y)).long:Int),.int .i64 ((piOf (X++Y)).ends:Int),.int .i64 ((piOf (X++Y)).tail:Int),.slice (some ⟨vg,0,none⟩) (3+D.nodes.length) vcap,.slice none 0 0,.int .i64 (capS ac bc:Int)]):=t1
      have hPA8:Hid (PcM z8 D sel X (.slice x4 m4 k4) (.slice x5 m5 k5) ac):=hPA7.out.stayT t2
      have hPB8:Hid (PcM z8 D sel Y (.slice y4 n4 l4) (.slice y5 n5 l5) bc):=hPB7.out.stayT t2
      have hS8:Hid (StayT wr z8):=hS7.out.trans t2
      have ht8:=htH7.out.stayT t2
      have htH8:Hid (Tab z8 0 _ _ _ _):=ht8
      clear ht8 htH7
      clear a0 a1 a2 a3 a4 a5 al b0 b1 b2 b3 b4 b5 bl c0 c1 c2 c3 c4 c5 cl f0 f1 f2 f3 f4 f5
      clear hz t1 t2 hT7 hPA7 hPB7 hS7
      obtain ⟨a0,a1,a2,a3,a4,a5,al⟩:=all6 hT8.out.a
      obtain ⟨b0,b1,b2,b3,b4,b5,bl⟩:=all6 hT8.out.b
      obtain ⟨c0,c1,c2,c3,c4,c5,cl⟩:=all6 hT8.out.c
      obtain ⟨f0,f1,f2,f3,f4,f5⟩:=froz6 hT8.out.c
      go_upto_region 11 with fail
      obtain ⟨z9,hz⟩:∃zz,zz=z8.setCell ⟨w3.heap.size,4,none⟩ (.slice y5 n5 l5):=⟨_,rfl⟩
      rw [←hz]
      obtain ⟨t1,t2⟩:=hT8.out.set 4 (.slice y5 n5 l5)
      rw [←hz] at t1 t2
      have hT9:Hid (TriP wr z9 w1.heap.size w2.heap.size w3.heap.size #[.int .i64 ((piOf X).long:Int),.int .i64 EX,.int .i64 ((piOf X).tail:Int),.slice x4 m4 k4,.slice x5 m5 k5,.int .i64 (ac:Int)] #[.int .i64 ((piOf Y).long:Int),.int .i64 EY,.int .i64 ((piOf Y).tail:Int),.slice y4 n4 l4,.slice y5 n5 l5,.int .i64 (bc:Int)] #[.int .i64 ((piOf (X++Y)).long:Int),.int .i64 ((piOf (X++Y)).ends:Int),.int .i64 ((piOf (X++Y)).tail:Int),.slice (some ⟨vg,0,none⟩) (3+D.nodes.length) vcap,.slice y5 n5 l5,.int .i64 (capS ac bc:Int)]):=t1
      have hPA9:Hid (PcM z9 D sel X (.slice x4 m4 k4) (.slice x5 m5 k5) ac):=hPA8.out.stayT t2
      have hPB9:Hid (PcM z9 D sel Y (.slice y4 n4 l4) (.slice y5 n5 l5) bc):=hPB8.out.stayT t2
      have hS9:Hid (StayT wr z9):=hS8.out.trans t2
      have ht9:=htH8.out.stayT t2
      have htH9:Hid (Tab z9 0 _ _ _ _):=ht9
      clear ht9 htH8
      clear a0 a1 a2 a3 a4 a5 al b0 b1 b2 b3 b4 b5 bl c0 c1 c2 c3 c4 c5 cl f0 f1 f2 f3 f4 f5
      clear hz t1 t2 hT8 hPA8 hPB8 hS8
      obtain ⟨a0,a1,a2,a3,a4,a5,al⟩:=all6 hT9.out.a
      obtain ⟨b0,b1,b2,b3,b4,b5,bl⟩:=all6 hT9.out.b
      obtain ⟨c0,c1,c2,c3,c4,c5,cl⟩:=all6 hT9.out.c
      obtain ⟨f0,f1,f2,f3,f4,f5⟩:=froz6 hT9.out.c
      go_upto_region 19 with fail
      obtain ⟨a0,a1,a2,a3,a4,a5,al⟩:=all6 hT9.out.a
      obtain ⟨b0,b1,b2,b3,b4,b5,bl⟩:=all6 hT9.out.b
      obtain ⟨c0,c1,c2,c3,c4,c5,cl⟩:=all6 hT9.out.c
      obtain ⟨f0,f1,f2,f3,f4,f5⟩:=froz6 hT9.out.c
      have hPQ:Hid (PcM z9 D sel (X++Y) (ivV (some ⟨vg,0,none⟩,(3+D.nodes.length),vcap)) (ivV (y5,n5,l5)) (capS ac bc)):=hPA9.out.joinA hPB9.out hx hrlH.out htH9.out hWvH.out
      have hGz:=hG2.out.kept hT9.out.k
      obtain ⟨u1,u2,u3,u4,u5,u6⟩:=hGz.put (k:=k) (by omega) (piOf (X++Y)) (some ⟨vg,0,none⟩,(3+D.nodes.length),vcap) (y5,n5,l5) (capS ac bc)
      have d0:z9.cell? ⟨gp,k*6,none⟩=some (U' k 0):=u1 0 (by omega)
      have d1:=u1 1 (by omega)
      have d2:=u1 2 (by omega)
      have d3:=u1 3 (by omega)
      have d4:=u1 4 (by omega)
      have d5:=u1 5 (by omega)
      have e0:=u2 (k*6)
      have e1:=u2 (k*6+1)
      have e2:=u2 (k*6+2)
      have e3:=u2 (k*6+3)
      have e4:=u2 (k*6+4)
      have e5:=u2 (k*6+5)
      have g4:z9.cell? ⟨b,4,none⟩=some (.slice (some ⟨gp,0,none⟩) m pc):=hGz.blk.cell 4
      have gbl:=hGz.blk.lt
      have u4H:Hid (GLn _ _ _ _ _ _ _ _ _ _ _):=u4
      have u5H:Hid (StayT _ _):=u5
      have u6H:Hid (Below base z9 _):=u6 base (hbaseH.out gp m pc (by rw [hmH.out]))
      have hP:Hid (PcM _ D sel (X++Y) _ _ _):=hPQ.out.stayT u5
      clear u1 u2 u4 u5 u6 hGz
      go_region
      clear a0 a1 a2 a3 a4 a5 al b0 b1 b2 b3 b4 b5 bl c0 c1 c2 c3 c4 c5 cl f0 f1 f2 f3 f4 f5
      clear d0 d1 d2 d3 d4 d5 e0 e1 e2 e3 e4 e5 g4 gbl u3
      go_wp2
      have hSt:Hid (StayT wr _):=hS9.out.trans u5H.out
      have hBl:Hid (Below base w _):=(hbl2.out.trans (hT9.out.k.below (Nat.le_trans hbw hst2.out.size) (by simp))).trans u6H.out
      refine ⟨⟨k+1,_,by go_num,by omega,u4H.out.kept ((Kept.refl [] _).drew),fun i hi=>?_,(hst2.out.trans hSt.out).trans (StayT.of ((Kept.refl [] _).drew)),hBl.out.drew⟩,?_⟩
      · by_cases hik:i=k
        · exact ⟨(some ⟨vg,0,none⟩,(3+D.nodes.length),vcap),(y5,n5,l5),(capS ac bc),fun j hj=>by show (if i=k then _ else _)=_;rw [if_pos hik,hik,hXY.out],fun _=>by rw [hik,hXY.out];exact hP.out.kept ((Kept.refl [] _).drew)⟩
        · obtain ⟨q3,q4,qc,g1,g2⟩:=hL2.out i hi
          exact ⟨q3,q4,qc,fun j hj=>by show (if i=k then _ else _)=_;rw [if_neg hik];exact g1 j hj,fun h=>((g2 (by omega)).stayT hSt.out).kept ((Kept.refl [] _).drew)⟩
      · show ((m:Int)-((k:Int)+1)).toNat<((m:Int)-(k:Int)).toNat
        omega
    · obtain ⟨t7a,t11⟩:=t7.out.2 hx
      obtain ⟨a0,a1,a2,a3,a4,a5,al⟩:=all6 hT2.out.a
      obtain ⟨b0,b1,b2,b3,b4,b5,bl⟩:=all6 hT2.out.b
      obtain ⟨c0,c1,c2,c3,c4,c5,cl⟩:=all6 hT2.out.c
      obtain ⟨f0,f1,f2,f3,f4,f5⟩:=froz6 hT2.out.c
      go_wp2_with fail
      refine (hbo.out _).mono ?_
      rintro e wq ⟨rfl,hwq⟩
      have hwq2:=hwq.symm
      subst hwq2
      clear a0 a1 a2 a3 a4 a5 al b0 b1 b2 b3 b4 b5 bl c0 c1 c2 c3 c4 c5 cl f0 f1 f2 f3 f4 f5
      obtain ⟨a0,a1,a2,a3,a4,a5,al⟩:=all6 hT2.out.a
      obtain ⟨b0,b1,b2,b3,b4,b5,bl⟩:=all6 hT2.out.b
      obtain ⟨c0,c1,c2,c3,c4,c5,cl⟩:=all6 hT2.out.c
      obtain ⟨f0,f1,f2,f3,f4,f5⟩:=froz6 hT2.out.c
      go_upto_region 10 with fail
      obtain ⟨z8,hz⟩:∃zz,zz=z.setCell ⟨w3.heap.size,5,none⟩ (.int .i64 (capS ac bc:Int)):=⟨_,rfl⟩
      rw [←hz]
      obtain ⟨t1,t2⟩:=hT2.out.set 5 (.int .i64 (capS ac bc:Int))
      rw [←hz] at t1 t2
      have hT8:Hid (TriP wr z8 w1.heap.size w2.heap.size w3.heap.size #[.int .i64 ((piOf X).long:Int),.int .i64 EX,.int .i64 ((piOf X).tail:Int),.slice x4 m4 k4,.slice x5 m5 k5,.int .i64 (ac:Int)] #[.int .i64 ((piOf Y).long:Int),.int .i64 EY,.int .i64 ((piOf Y).tail:Int),.slice y4 n4 l4,.slice y5 n5 l5,.int .i64 (bc:Int)] #[.int .i64 ((piOf (X++Y)).long:Int),.int .i64 ((piOf (X++Y)).ends:Int),.int .i64 ((piOf (X++Y)).tail:Int),.slice x4 m4 k4,.slice none 0 0,.int .i64 (capS ac bc:Int)]):=t1
      have hPA8:Hid (PcM z8 D sel X (.slice x4 m4 k4) (.slice x5 m5 k5) ac):=hPA5.out.stayT t2
      have hPB8:Hid (PcM z8 D sel Y (.slice y4 n4 l4) (.slice y5 n5 l5) bc):=hPB5.out.stayT t2
      have hS8:Hid (StayT wr z8):=hS5.out.trans t2
      clear a0 a1 a2 a3 a4 a5 al b0 b1 b2 b3 b4 b5 bl c0 c1 c2 c3 c4 c5 cl f0 f1 f2 f3 f4 f5
      clear hz t1 t2 hT2 hPA5 hPB5 hS5
      obtain ⟨a0,a1,a2,a3,a4,a5,al⟩:=all6 hT8.out.a
      obtain ⟨b0,b1,b2,b3,b4,b5,bl⟩:=all6 hT8.out.b
      obtain ⟨c0,c1,c2,c3,c4,c5,cl⟩:=all6 hT8.out.c
      obtain ⟨f0,f1,f2,f3,f4,f5⟩:=froz6 hT8.out.c
      go_upto_region 11 with fail
      obtain ⟨z9,hz⟩:∃zz,zz=z8.setCell ⟨w3.heap.size,4,none⟩ (.slice y5 n5 l5):=⟨_,rfl⟩
      rw [←hz]
      obtain ⟨t1,t2⟩:=hT8.out.set 4 (.slice y5 n5 l5)
      rw [←hz] at t1 t2
      have hT9:Hid (TriP wr z9 w1.heap.size w2.heap.size w3.heap.size #[.int .i64 ((piOf X).long:Int),.int .i64 EX,.int .i64 ((piOf X).tail:Int),.slice x4 m4 k4,.slice x5 m5 k5,.int .i64 (ac:Int)] #[.int .i64 ((piOf Y).long:Int),.int .i64 EY,.int .i64 ((piOf Y).tail:Int),.slice y4 n4 l4,.slice y5 n5 l5,.int .i64 (bc:Int)] #[.int .i64 ((piOf (X++Y)).long:Int),.int .i64 ((piOf (X++Y)).ends:Int),.int .i64 ((piOf (X++Y)).tail:Int),.slice x4 m4 k4,.slice y5 n5 l5,.int .i64 (capS ac bc:Int)]):=t1
      have hPA9:Hid (PcM z9 D sel X (.slice x4 m4 k4) (.slice x5 m5 k5) ac):=hPA8.out.stayT t2
      have hPB9:Hid (PcM z9 D sel Y (.slice y4 n4 l4) (.slice y5 n5 l5) bc):=hPB8.out.stayT t2
      have hS9:Hid (StayT wr z9):=hS8.out.trans t2
      clear a0 a1 a2 a3 a4 a5 al b0 b1 b2 b3 b4 b5 bl c0 c1 c2 c3 c4 c5 cl f0 f1 f2 f3 f4 f5
      clear hz t1 t2 hT8 hPA8 hPB8 hS8
      obtain ⟨ga,fa,ea,qa2,qa3⟩:=hPA9.out.meet hx
      obtain ⟨rb',B',qb1,qb2,qb3⟩:=hPB9.out.way
      have hth:Hid (Calls _ _ _ z9 _):=through_any (by omega) qa2 qb2 qb1
      rw [←ea] at hth
      have hsf:Hid (SF D.nodes.length (thr fa B' (3+D.nodes.length))=runD D (restL X++headL Y) (sgl 0)):=by
       have h1:=thr_run qa3 (run_valid D (restL X) _ (sgl_valid 0)) qb3
       rw [←runD_app] at h1
       exact h1
      clear ea qa2 qa3 qb1 qb2 qb3
      obtain ⟨a0,a1,a2,a3,a4,a5,al⟩:=all6 hT9.out.a
      obtain ⟨b0,b1,b2,b3,b4,b5,bl⟩:=all6 hT9.out.b
      obtain ⟨c0,c1,c2,c3,c4,c5,cl⟩:=all6 hT9.out.c
      obtain ⟨f0,f1,f2,f3,f4,f5⟩:=froz6 hT9.out.c
      go_wp2_with fail
      refine hth.out.mono ?_
      rintro e w6 ⟨⟨gv,rfl,_,hbv⟩,kq⟩
      unfold rowV
      have hbH:Hid (Blk w6 gv (boolRow (3+D.nodes.length) (thr fa B' (3+D.nodes.length))) 4):=hbv
      clear a0 a1 a2 a3 a4 a5 al b0 b1 b2 b3 b4 b5 bl c0 c1 c2 c3 c4 c5 cl f0 f1 f2 f3 f4 f5
      clear hbv hth
      have hT10:Hid (TriP wr w6 w1.heap.size w2.heap.size w3.heap.size #[.int .i64 ((piOf X).long:Int),.int .i64 EX,.int .i64 ((piOf X).tail:Int),.slice x4 m4 k4,.slice x5 m5 k5,.int .i64 (ac:Int)] #[.int .i64 ((piOf Y).long:Int),.int .i64 EY,.int .i64 ((piOf Y).tail:Int),.slice y4 n4 l4,.slice y5 n5 l5,.int .i64 (bc:Int)] #[.int .i64 ((piOf (X++Y)).long:Int),.int .i64 ((piOf (X++Y)).ends:Int),.int .i64 ((piOf (X++Y)).tail:Int),.slice x4 m4 k4,.slice y5 n5 l5,.int .i64 (capS ac bc:Int)]):=hT9.out.more kq
      have hPA10:Hid (PcM w6 D sel X (.slice x4 m4 k4) (.slice x5 m5 k5) ac):=hPA9.out.kept kq
      have hPB10:Hid (PcM w6 D sel Y (.slice y4 n4 l4) (.slice y5 n5 l5) bc):=hPB9.out.kept kq
      have hS10:Hid (StayT wr w6):=hS9.out.trans (StayT.of kq)
      clear kq hT9 hPA9 hPB9 hS9
      obtain ⟨a0,a1,a2,a3,a4,a5,al⟩:=all6 hT10.out.a
      obtain ⟨b0,b1,b2,b3,b4,b5,bl⟩:=all6 hT10.out.b
      obtain ⟨c0,c1,c2,c3,c4,c5,cl⟩:=all6 hT10.out.c
      obtain ⟨f0,f1,f2,f3,f4,f5⟩:=froz6 hT10.out.c
      go_upto_region 14 with fail
      obtain ⟨z11,hz⟩:∃zz,zz=w6.setCell ⟨w3.heap.size,4,none⟩ (.slice (some ⟨gv,0,none⟩) (3+D.nodes.length) (3+D.nodes.length)):=⟨_,rfl⟩
      rw [←hz]
      obtain ⟨t1,t2⟩:=hT10.out.set 4 (.slice (some ⟨gv,0,none⟩) (3+D.nodes.length) (3+D.nodes.length))
      rw [←hz] at t1 t2
      have hT11:Hid (TriP wr z11 w1.heap.size w2.heap.size w3.heap.size #[.int .i64 ((piOf X).long:Int),.int .i64 EX,.int .i64 ((piOf X).tail:Int),.slice x4 m4 k4,.slice x5 m5 k5,.int .i64 (ac:Int)] #[.int .i64 ((piOf Y).long:Int),.int .i64 EY,.int .i64 ((piOf Y).tail:Int),.slice y4 n4 l4,.slice y5 n5 l5,.int .i64 (bc:Int)] #[.int .i64 ((piOf (X++Y)).long:Int),.int .i64 ((piOf (X++Y)).ends:Int),.int .i64 ((piOf (X++Y)).tail:Int),.slice x4 m4 k4,.slice (some ⟨gv,0,none⟩) (3+D.nodes.length) (3+D.nodes.length),.int .i64 (capS ac bc:Int)]):=t1
      have hPA11:Hid (PcM z11 D sel X (.slice x4 m4 k4) (.slice x5 m5 k5) ac):=hPA10.out.stayT t2
      have hPB11:Hid (PcM z11 D sel Y (.slice y4 n4 l4) (.slice y5 n5 l5) bc):=hPB10.out.stayT t2
      have hS11:Hid (StayT wr z11):=hS10.out.trans t2
      have hbz:Blk z11 gv (boolRow (3+D.nodes.length) (thr fa B' (3+D.nodes.length))) 4:=t2.blk _ _ _ (by decide) (by decide) hbH.out
      have hb11:Hid (Blk z11 gv (boolRow (3+D.nodes.length) (thr fa B' (3+D.nodes.length))) 4):=hbz
      clear hbz hbH
      clear a0 a1 a2 a3 a4 a5 al b0 b1 b2 b3 b4 b5 bl c0 c1 c2 c3 c4 c5 cl f0 f1 f2 f3 f4 f5
      clear hz t1 t2 hT10 hPA10 hPB10 hS10
      by_cases hy:compL Y=[]
      · have t14a:=t14.out.1 hy
        obtain ⟨a0,a1,a2,a3,a4,a5,al⟩:=all6 hT11.out.a
        obtain ⟨b0,b1,b2,b3,b4,b5,bl⟩:=all6 hT11.out.b
        obtain ⟨c0,c1,c2,c3,c4,c5,cl⟩:=all6 hT11.out.c
        obtain ⟨f0,f1,f2,f3,f4,f5⟩:=froz6 hT11.out.c
        go_upto_region 19 with fail
        obtain ⟨a0,a1,a2,a3,a4,a5,al⟩:=all6 hT11.out.a
        obtain ⟨b0,b1,b2,b3,b4,b5,bl⟩:=all6 hT11.out.b
        obtain ⟨c0,c1,c2,c3,c4,c5,cl⟩:=all6 hT11.out.c
        obtain ⟨f0,f1,f2,f3,f4,f5⟩:=froz6 hT11.out.c
        have hPQ:Hid (PcM z11 D sel (X++Y) (ivV (x4,m4,k4)) (ivV (some ⟨gv,0,none⟩,(3+D.nodes.length),(3+D.nodes.length))) (capS ac bc)):=hPA11.out.joinB hPB11.out hx hy hb11.out hsf.out
        have hGz:=hG2.out.kept hT11.out.k
        obtain ⟨u1,u2,u3,u4,u5,u6⟩:=hGz.put (k:=k) (by omega) (piOf (X++Y)) (x4,m4,k4) (some ⟨gv,0,none⟩,(3+D.nodes.length),(3+D.nodes.length)) (capS ac bc)
        have d0:z11.cell? ⟨gp,k*6,none⟩=some (U' k 0):=u1 0 (by omega)
        have d1:=u1 1 (by omega)
        have d2:=u1 2 (by omega)
        have d3:=u1 3 (by omega)
        have d4:=u1 4 (by omega)
        have d5:=u1 5 (by omega)
        have e0:=u2 (k*6)
        have e1:=u2 (k*6+1)
        have e2:=u2 (k*6+2)
        have e3:=u2 (k*6+3)
        have e4:=u2 (k*6+4)
        have e5:=u2 (k*6+5)
        have g4:z11.cell? ⟨b,4,none⟩=some (.slice (some ⟨gp,0,none⟩) m pc):=hGz.blk.cell 4
        have gbl:=hGz.blk.lt
        have u4H:Hid (GLn _ _ _ _ _ _ _ _ _ _ _):=u4
        have u5H:Hid (StayT _ _):=u5
        have u6H:Hid (Below base z11 _):=u6 base (hbaseH.out gp m pc (by rw [hmH.out]))
        have hP:Hid (PcM _ D sel (X++Y) _ _ _):=hPQ.out.stayT u5
        clear u1 u2 u4 u5 u6 hGz
        go_region
        clear a0 a1 a2 a3 a4 a5 al b0 b1 b2 b3 b4 b5 bl c0 c1 c2 c3 c4 c5 cl f0 f1 f2 f3 f4 f5
        clear d0 d1 d2 d3 d4 d5 e0 e1 e2 e3 e4 e5 g4 gbl u3
        go_wp2
        have hSt:Hid (StayT wr _):=hS11.out.trans u5H.out
        have hBl:Hid (Below base w _):=(hbl2.out.trans (hT11.out.k.below (Nat.le_trans hbw hst2.out.size) (by simp))).trans u6H.out
        refine ⟨⟨k+1,_,by go_num,by omega,u4H.out.kept ((Kept.refl [] _).drew),fun i hi=>?_,(hst2.out.trans hSt.out).trans (StayT.of ((Kept.refl [] _).drew)),hBl.out.drew⟩,?_⟩
        · by_cases hik:i=k
          · exact ⟨(x4,m4,k4),(some ⟨gv,0,none⟩,(3+D.nodes.length),(3+D.nodes.length)),(capS ac bc),fun j hj=>by show (if i=k then _ else _)=_;rw [if_pos hik,hik,hXY.out],fun _=>by rw [hik,hXY.out];exact hP.out.kept ((Kept.refl [] _).drew)⟩
          · obtain ⟨q3,q4,qc,g1,g2⟩:=hL2.out i hi
            exact ⟨q3,q4,qc,fun j hj=>by show (if i=k then _ else _)=_;rw [if_neg hik];exact g1 j hj,fun h=>((g2 (by omega)).stayT hSt.out).kept ((Kept.refl [] _).drew)⟩
        · show ((m:Int)-((k:Int)+1)).toNat<((m:Int)-(k:Int)).toNat
          omega
      · have t14a:=t14.out.2 hy
        obtain ⟨a0,a1,a2,a3,a4,a5,al⟩:=all6 hT11.out.a
        obtain ⟨b0,b1,b2,b3,b4,b5,bl⟩:=all6 hT11.out.b
        obtain ⟨c0,c1,c2,c3,c4,c5,cl⟩:=all6 hT11.out.c
        obtain ⟨f0,f1,f2,f3,f4,f5⟩:=froz6 hT11.out.c
        go_upto_region 16 with fail
        obtain ⟨z12,hz⟩:∃zz,zz=z11.setCell ⟨w3.heap.size,4,none⟩ (.slice y5 n5 l5):=⟨_,rfl⟩
        rw [←hz]
        obtain ⟨t1,t2⟩:=hT11.out.set 4 (.slice y5 n5 l5)
        rw [←hz] at t1 t2
        have hT12:Hid (TriP wr z12 w1.heap.size w2.heap.size w3.heap.size #[.int .i64 ((piOf X).long:Int),.int .i64 EX,.int .i64 ((piOf X).tail:Int),.slice x4 m4 k4,.slice x5 m5 k5,.int .i64 (ac:Int)] #[.int .i64 ((piOf Y).long:Int),.int .i64 EY,.int .i64 ((piOf Y).tail:Int),.slice y4 n4 l4,.slice y5 n5 l5,.int .i64 (bc:Int)] #[.int .i64 ((piOf (X++Y)).long:Int),.int .i64 ((piOf (X++Y)).ends:Int),.int .i64 ((piOf (X++Y)).tail:Int),.slice x4 m4 k4,.slice y5 n5 l5,.int .i64 (capS ac bc:Int)]):=t1
        have hPA12:Hid (PcM z12 D sel X (.slice x4 m4 k4) (.slice x5 m5 k5) ac):=hPA11.out.stayT t2
        have hPB12:Hid (PcM z12 D sel Y (.slice y4 n4 l4) (.slice y5 n5 l5) bc):=hPB11.out.stayT t2
        have hS12:Hid (StayT wr z12):=hS11.out.trans t2
        have hbz:Blk z12 gv (boolRow (3+D.nodes.length) (thr fa B' (3+D.nodes.length))) 4:=t2.blk _ _ _ (by decide) (by decide) hb11.out
        have hb12:Hid (Blk z12 gv (boolRow (3+D.nodes.length) (thr fa B' (3+D.nodes.length))) 4):=hbz
        clear hbz hb11
        clear a0 a1 a2 a3 a4 a5 al b0 b1 b2 b3 b4 b5 bl c0 c1 c2 c3 c4 c5 cl f0 f1 f2 f3 f4 f5
        clear hz t1 t2 hT11 hPA11 hPB11 hS11
        have hse:Hid (Calls _ _ _ z12 _):=dselects_any (hM2.out.stayT hS12.out) hRH.out hn hb12.out
        unfold rowV at hse
        have hss:Hid (∀y:Bool,(y=true↔selS D (SF D.nodes.length (thr fa B' (3+D.nodes.length))))→(y != D.inv)=sel (restL X++headL Y)):=fun y hy1=>hselH.out _ (fun c hc=>hlx.out c (by rcases List.mem_append.1 hc with h | h;exact List.mem_append_left _ (rest_mem h);exact List.mem_append_right _ (head_mem h))) y (by rw [hsf.out] at hy1;exact hy1)
        have hb1:Hid (∀w',Calls Tryz.prog 50 #[.int .i64 (capS ac bc:Int),.int .i64 1] w' fun e w''=>e=.returned (.int .i64 (capS (capS ac bc) 1:Int))∧w''=w'):=fun w'=>pboth_any (capS ac bc) 1 (by rw [capS_eq];exact capL_le _) (by omega) w'
        obtain ⟨a0,a1,a2,a3,a4,a5,al⟩:=all6 hT12.out.a
        obtain ⟨b0,b1,b2,b3,b4,b5,bl⟩:=all6 hT12.out.b
        obtain ⟨c0,c1,c2,c3,c4,c5,cl⟩:=all6 hT12.out.c
        obtain ⟨f0,f1,f2,f3,f4,f5⟩:=froz6 hT12.out.c
        go_wp2_with fail
        refine hse.out.mono ?_
        rintro e w7 ⟨⟨y7,rfl,hy7⟩,kq⟩
        have hq7:=hss.out y7 hy7
        obtain ⟨q7,hq⟩:∃q,q=(y7 != D.inv):=⟨_,rfl⟩
        rw [←hq] at hq7 ⊢
        clear hq hy7
        clear a0 a1 a2 a3 a4 a5 al b0 b1 b2 b3 b4 b5 bl c0 c1 c2 c3 c4 c5 cl f0 f1 f2 f3 f4 f5
        clear hse hss
        have hT13:Hid (TriP wr w7 w1.heap.size w2.heap.size w3.heap.size #[.int .i64 ((piOf X).long:Int),.int .i64 EX,.int .i64 ((piOf X).tail:Int),.slice x4 m4 k4,.slice x5 m5 k5,.int .i64 (ac:Int)] #[.int .i64 ((piOf Y).long:Int),.int .i64 EY,.int .i64 ((piOf Y).tail:Int),.slice y4 n4 l4,.slice y5 n5 l5,.int .i64 (bc:Int)] #[.int .i64 ((piOf (X++Y)).long:Int),.int .i64 ((piOf (X++Y)).ends:Int),.int .i64 ((piOf (X++Y)).tail:Int),.slice x4 m4 k4,.slice y5 n5 l5,.int .i64 (capS ac bc:Int)]):=hT12.out.more kq
        have hPA13:Hid (PcM w7 D sel X (.slice x4 m4 k4) (.slice x5 m5 k5) ac):=hPA12.out.kept kq
        have hPB13:Hid (PcM w7 D sel Y (.slice y4 n4 l4) (.slice y5 n5 l5) bc):=hPB12.out.kept kq
        have hS13:Hid (StayT wr w7):=hS12.out.trans (StayT.of kq)
        clear kq hT12 hPA12 hPB12 hS12
        cases q7
        · have hqH:Hid (sel (restL X++headL Y)=false):=hq7.symm
          clear hq7
          obtain ⟨a0,a1,a2,a3,a4,a5,al⟩:=all6 hT13.out.a
          obtain ⟨b0,b1,b2,b3,b4,b5,bl⟩:=all6 hT13.out.b
          obtain ⟨c0,c1,c2,c3,c4,c5,cl⟩:=all6 hT13.out.c
          obtain ⟨f0,f1,f2,f3,f4,f5⟩:=froz6 hT13.out.c
          go_upto_region 19 with fail
          obtain ⟨a0,a1,a2,a3,a4,a5,al⟩:=all6 hT13.out.a
          obtain ⟨b0,b1,b2,b3,b4,b5,bl⟩:=all6 hT13.out.b
          obtain ⟨c0,c1,c2,c3,c4,c5,cl⟩:=all6 hT13.out.c
          obtain ⟨f0,f1,f2,f3,f4,f5⟩:=froz6 hT13.out.c
          have hPQ:Hid (PcM w7 D sel (X++Y) (ivV (x4,m4,k4)) (ivV (y5,n5,l5)) (capS ac bc)):=hPA13.out.joinC hPB13.out hx hy (by rw [if_neg (by rw [hqH.out];decide)])
          have hGz:=hG2.out.kept hT13.out.k
          obtain ⟨u1,u2,u3,u4,u5,u6⟩:=hGz.put (k:=k) (by omega) (piOf (X++Y)) (x4,m4,k4) (y5,n5,l5) (capS ac bc)
          have d0:w7.cell? ⟨gp,k*6,none⟩=some (U' k 0):=u1 0 (by omega)
          have d1:=u1 1 (by omega)
          have d2:=u1 2 (by omega)
          have d3:=u1 3 (by omega)
          have d4:=u1 4 (by omega)
          have d5:=u1 5 (by omega)
          have e0:=u2 (k*6)
          have e1:=u2 (k*6+1)
          have e2:=u2 (k*6+2)
          have e3:=u2 (k*6+3)
          have e4:=u2 (k*6+4)
          have e5:=u2 (k*6+5)
          have g4:w7.cell? ⟨b,4,none⟩=some (.slice (some ⟨gp,0,none⟩) m pc):=hGz.blk.cell 4
          have gbl:=hGz.blk.lt
          have u4H:Hid (GLn _ _ _ _ _ _ _ _ _ _ _):=u4
          have u5H:Hid (StayT _ _):=u5
          have u6H:Hid (Below base w7 _):=u6 base (hbaseH.out gp m pc (by rw [hmH.out]))
          have hP:Hid (PcM _ D sel (X++Y) _ _ _):=hPQ.out.stayT u5
          clear u1 u2 u4 u5 u6 hGz
          go_region
          clear a0 a1 a2 a3 a4 a5 al b0 b1 b2 b3 b4 b5 bl c0 c1 c2 c3 c4 c5 cl f0 f1 f2 f3 f4 f5
          clear d0 d1 d2 d3 d4 d5 e0 e1 e2 e3 e4 e5 g4 gbl u3
          go_wp2
          have hSt:Hid (StayT wr _):=hS13.out.trans u5H.out
          have hBl:Hid (Below base w _):=(hbl2.out.trans (hT13.out.k.below (Nat.le_trans hbw hst2.out.size) (by simp))).trans u6H.out
          refine ⟨⟨k+1,_,by go_num,by omega,u4H.out.kept ((Kept.refl [] _).drew),fun i hi=>?_,(hst2.out.trans hSt.out).trans (StayT.of ((Kept.refl [] _).drew)),hBl.out.drew⟩,?_⟩
          · by_cases hik:i=k
            · exact ⟨(x4,m4,k4),(y5,n5,l5),(capS ac bc),fun j hj=>by show (if i=k then _ else _)=_;rw [if_pos hik,hik,hXY.out],fun _=>by rw [hik,hXY.out];exact hP.out.kept ((Kept.refl [] _).drew)⟩
            · obtain ⟨q3,q4,qc,g1,g2⟩:=hL2.out i hi
              exact ⟨q3,q4,qc,fun j hj=>by show (if i=k then _ else _)=_;rw [if_neg hik];exact g1 j hj,fun h=>((g2 (by omega)).stayT hSt.out).kept ((Kept.refl [] _).drew)⟩
          · show ((m:Int)-((k:Int)+1)).toNat<((m:Int)-(k:Int)).toNat
            omega
        · have hqH:Hid (sel (restL X++headL Y)=true):=hq7.symm
          clear hq7
          obtain ⟨a0,a1,a2,a3,a4,a5,al⟩:=all6 hT13.out.a
          obtain ⟨b0,b1,b2,b3,b4,b5,bl⟩:=all6 hT13.out.b
          obtain ⟨c0,c1,c2,c3,c4,c5,cl⟩:=all6 hT13.out.c
          obtain ⟨f0,f1,f2,f3,f4,f5⟩:=froz6 hT13.out.c
          go_wp2_with fail
          refine (hb1.out _).mono ?_
          rintro e wq ⟨rfl,hwq⟩
          have hwq2:=hwq.symm
          subst hwq2
          clear a0 a1 a2 a3 a4 a5 al b0 b1 b2 b3 b4 b5 bl c0 c1 c2 c3 c4 c5 cl f0 f1 f2 f3 f4 f5
          obtain ⟨a0,a1,a2,a3,a4,a5,al⟩:=all6 hT13.out.a
          obtain ⟨b0,b1,b2,b3,b4,b5,bl⟩:=all6 hT13.out.b
          obtain ⟨c0,c1,c2,c3,c4,c5,cl⟩:=all6 hT13.out.c
          obtain ⟨f0,f1,f2,f3,f4,f5⟩:=froz6 hT13.out.c
          go_upto_region 19 with fail
          obtain ⟨z14,hz⟩:∃zz,zz=w7.setCell ⟨w3.heap.size,5,none⟩ (.int .i64 (capS (capS ac bc) 1:Int)):=⟨_,rfl⟩
          rw [←hz]
          obtain ⟨t1,t2⟩:=hT13.out.set 5 (.int .i64 (capS (capS ac bc) 1:Int))
          rw [←hz] at t1 t2
          have hT14:Hid (TriP wr z14 w1.heap.size w2.heap.size w3.heap.size #[.int .i64 ((piOf X).long:Int),.int .i64 EX,.int .i64 ((piOf X).tail:Int),.slice x4 m4 k4,.slice x5 m5 k5,.int .i64 (ac:Int)] #[.int .i64 ((piOf Y).long:Int),.int .i64 EY,.int .i64 ((piOf Y).tail:Int),.slice y4 n4 l4,.slice y5 n5 l5,.int .i64 (bc:Int)] #[.int .i64 ((piOf (X++Y)).long:Int),.int .i64 ((piOf (X++Y)).ends:Int),.int .i64 ((piOf (X++Y)).tail:Int),.slice x4 m4 k4,.slice y5 n5 l5,.int .i64 (capS (capS ac bc) 1:Int)]):=t1
          have hPA14:Hid (PcM z14 D sel X (.slice x4 m4 k4) (.slice x5 m5 k5) ac):=hPA13.out.stayT t2
          have hPB14:Hid (PcM z14 D sel Y (.slice y4 n4 l4) (.slice y5 n5 l5) bc):=hPB13.out.stayT t2
          have hS14:Hid (StayT wr z14):=hS13.out.trans t2
          clear a0 a1 a2 a3 a4 a5 al b0 b1 b2 b3 b4 b5 bl c0 c1 c2 c3 c4 c5 cl f0 f1 f2 f3 f4 f5
          clear hz t1 t2 hT13 hPA13 hPB13 hS13
          obtain ⟨a0,a1,a2,a3,a4,a5,al⟩:=all6 hT14.out.a
          obtain ⟨b0,b1,b2,b3,b4,b5,bl⟩:=all6 hT14.out.b
          obtain ⟨c0,c1,c2,c3,c4,c5,cl⟩:=all6 hT14.out.c
          obtain ⟨f0,f1,f2,f3,f4,f5⟩:=froz6 hT14.out.c
          have hPQ:Hid (PcM z14 D sel (X++Y) (ivV (x4,m4,k4)) (ivV (y5,n5,l5)) (capS (capS ac bc) 1)):=hPA14.out.joinC hPB14.out hx hy (by rw [if_pos hqH.out])
          have hGz:=hG2.out.kept hT14.out.k
          obtain ⟨u1,u2,u3,u4,u5,u6⟩:=hGz.put (k:=k) (by omega) (piOf (X++Y)) (x4,m4,k4) (y5,n5,l5) (capS (capS ac bc) 1)
          have d0:z14.cell? ⟨gp,k*6,none⟩=some (U' k 0):=u1 0 (by omega)
          have d1:=u1 1 (by omega)
          have d2:=u1 2 (by omega)
          have d3:=u1 3 (by omega)
          have d4:=u1 4 (by omega)
          have d5:=u1 5 (by omega)
          have e0:=u2 (k*6)
          have e1:=u2 (k*6+1)
          have e2:=u2 (k*6+2)
          have e3:=u2 (k*6+3)
          have e4:=u2 (k*6+4)
          have e5:=u2 (k*6+5)
          have g4:z14.cell? ⟨b,4,none⟩=some (.slice (some ⟨gp,0,none⟩) m pc):=hGz.blk.cell 4
          have gbl:=hGz.blk.lt
          have u4H:Hid (GLn _ _ _ _ _ _ _ _ _ _ _):=u4
          have u5H:Hid (StayT _ _):=u5
          have u6H:Hid (Below base z14 _):=u6 base (hbaseH.out gp m pc (by rw [hmH.out]))
          have hP:Hid (PcM _ D sel (X++Y) _ _ _):=hPQ.out.stayT u5
          clear u1 u2 u4 u5 u6 hGz
          go_region
          clear a0 a1 a2 a3 a4 a5 al b0 b1 b2 b3 b4 b5 bl c0 c1 c2 c3 c4 c5 cl f0 f1 f2 f3 f4 f5
          clear d0 d1 d2 d3 d4 d5 e0 e1 e2 e3 e4 e5 g4 gbl u3
          go_wp2
          have hSt:Hid (StayT wr _):=hS14.out.trans u5H.out
          have hBl:Hid (Below base w _):=(hbl2.out.trans (hT14.out.k.below (Nat.le_trans hbw hst2.out.size) (by simp))).trans u6H.out
          refine ⟨⟨k+1,_,by go_num,by omega,u4H.out.kept ((Kept.refl [] _).drew),fun i hi=>?_,(hst2.out.trans hSt.out).trans (StayT.of ((Kept.refl [] _).drew)),hBl.out.drew⟩,?_⟩
          · by_cases hik:i=k
            · exact ⟨(x4,m4,k4),(y5,n5,l5),(capS (capS ac bc) 1),fun j hj=>by show (if i=k then _ else _)=_;rw [if_pos hik,hik,hXY.out],fun _=>by rw [hik,hXY.out];exact hP.out.kept ((Kept.refl [] _).drew)⟩
            · obtain ⟨q3,q4,qc,g1,g2⟩:=hL2.out i hi
              exact ⟨q3,q4,qc,fun j hj=>by show (if i=k then _ else _)=_;rw [if_neg hik];exact g1 j hj,fun h=>((g2 (by omega)).stayT hSt.out).kept ((Kept.refl [] _).drew)⟩
          · show ((m:Int)-((k:Int)+1)).toNat<((m:Int)-(k:Int)).toNat
            omega
  · obtain rfl:m=k:=by omega
    clear hG
    go_wp2
    go_end0
    refine ⟨rfl,U',hG2.out,?_,hst2.out,hbl2.out⟩
    exact hL2.out
end Go.Proofs.YtgifhgnccmnbiabGreat
