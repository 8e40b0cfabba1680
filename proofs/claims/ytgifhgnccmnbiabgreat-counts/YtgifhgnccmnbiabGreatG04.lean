/- The document's answer: an atom. -/
import Derived.Test.YtgifhgnccmnbiabGreatG03
set_option linter.unusedVariables false
set_option linter.unusedSimpArgs false
set_option maxHeartbeats 4000000
set_option maxRecDepth 100000
namespace Go.Proofs.YtgifhgnccmnbiabGreat
open Go.RowKit Go.IntWalk
section
variable {t:ByteArray} {st:RP} {r r1:Nat×RP} {cur:List Nat}
theorem EvR.plain (h:(tkS t (openR t st.1)).1≠40):EvR t 3 [] st (plainR t (tkS t (openR t st.1)).1 ((tkS t (openR t st.1)).2,st.2)):=
 ev_succ ⟨0,fun f _=>by rw [goR,if_neg (by decide),if_neg (by decide),if_neg (by decide),if_pos rfl,if_neg h]⟩
theorem EvR.group (h:(tkS t (openR t st.1)).1=40) (h1:EvR t 0 [] ((tkS t (openR t st.1)).2,st.2) r1):EvR t 3 [] st (closeR t r1):=
 ev_succ (by obtain ⟨a,h2⟩:=h1;exact ⟨a,fun f hf=>by rw [goR,if_neg (by decide),if_neg (by decide),if_neg (by decide),if_pos rfl,if_pos h,h2 f hf]⟩)
theorem EvR.piece (h1:EvR t 3 [] st r1) (h2:EvR t 4 [r1.1] r1.2 r):EvR t 2 [] st r:=
 ev_succ (by obtain ⟨a,h⟩:=ev_max h1 h2;exact ⟨a,fun f hf=>by obtain ⟨x,y⟩:=h f hf;rw [goR,if_neg (by decide),if_neg (by decide),if_pos rfl,x,y]⟩)
theorem EvR.repEnd {x:Nat} (h:st.1.2=true∨stB t st.1 [42,43,63,123]=false):EvR t 4 [x] st (x,st):=
 ev_succ ⟨0,fun f _=>by rw [goR,if_neg (by decide),if_neg (by decide),if_neg (by decide),if_neg (by decide),if_pos h];rfl⟩
theorem EvR.rep {x:Nat} (hb:st.1.2=false) (h:stB t st.1 [42,43,63,123]=true)
 (h1:EvR t 4 [(pushP { kind:=6,kids:=[x],least:=(repR t st.1).1.1,most:=(repR t st.1).1.2 } ((repR t st.1).2,st.2)).1] (pushP { kind:=6,kids:=[x],least:=(repR t st.1).1.1,most:=(repR t st.1).1.2 } ((repR t st.1).2,st.2)).2 r):EvR t 4 [x] st r:=
 ev_succ (by obtain ⟨a,h2⟩:=h1;exact ⟨a,fun f hf=>by rw [goR,if_neg (by decide),if_neg (by decide),if_neg (by decide),if_neg (by decide),if_neg (by rw [hb,h];decide)];exact h2 f hf⟩)
theorem EvR.branchEnd (h:moreR t st.1=false):EvR t 1 cur st (pushP { kind:=4,kids:=cur } st):=
 ev_succ ⟨0,fun f _=>by rw [goR,if_neg (by decide),if_pos rfl,if_neg (by rw [h];decide)]⟩
theorem EvR.branchOn (h:moreR t st.1=true) (h1:EvR t 2 [] st r1) (h2:EvR t 1 (cur++[r1.1]) r1.2 r):EvR t 1 cur st r:=
 ev_succ (by obtain ⟨a,h3⟩:=ev_max h1 h2;exact ⟨a,fun f hf=>by obtain ⟨x,y⟩:=h3 f hf;rw [goR,if_neg (by decide),if_pos rfl,if_pos h,x,y]⟩)
theorem EvR.choiceEnd (h1:EvR t 1 [] st r1) (h:(takeS t 124 r1.2.1).1=false∨(takeS t 124 r1.2.1).2.2=true):EvR t 0 cur st (pushP { kind:=5,kids:=cur++[r1.1] } ((takeS t 124 r1.2.1).2,r1.2.2)):=
 ev_succ (by obtain ⟨a,h2⟩:=h1;exact ⟨a,fun f hf=>by rw [goR,if_pos rfl];simp only [];rw [h2 f hf,if_pos h]⟩)
theorem EvR.choiceOn (h1:EvR t 1 [] st r1) (h:¬((takeS t 124 r1.2.1).1=false∨(takeS t 124 r1.2.1).2.2=true)) (h2:EvR t 0 (cur++[r1.1]) ((takeS t 124 r1.2.1).2,r1.2.2) r):EvR t 0 cur st r:=
 ev_succ (by obtain ⟨a,h3⟩:=ev_max h1 h2;exact ⟨a,fun f hf=>by obtain ⟨x,y⟩:=h3 f hf;rw [goR,if_pos rfl];simp only [];rw [x,if_neg h,y]⟩)
end
theorem stands4 (b:Nat) (t:ByteArray) (s:RS) (w:World) (h:RR w b t s):
 Calls Tryz.prog 73 #[.pointer (some ⟨b,0,none⟩),.string ⟨#[42,43,63,123]⟩] w fun e w'=>e=.returned (.bool (stB t s [42,43,63,123]))∧RR w' b t s∧Kept [b] w w':=stands_any b t s _ w h (by decide)
theorem infoBool:(Tryz.prog.info? 4).map (fun i=>(i.zero,i.size,i.bytes))=some (some (.bool false),1,1):=by kernel_rfl
theorem made_bools:madeCells (Value.bool false).cells 256=boolCells (fun _=>false):=by
 apply Array.ext
 · simp [madeCells,boolCells]
 · intro i h1 h2
   simp [madeCells,boolCells,Value.cells,Nat.mod_one]
theorem make_bools (w:World):(Instr.makeSlice 47 (.int .i64 256) (.int .i64 256)).run Tryz.prog w=.ok (.slice (some ⟨w.heap.size,0,none⟩) 256 256) (w.alloc (.cells (boolCells (fun _=>false)) 4)):=by
 obtain ⟨i0,hi0,hz0,hz1,hz2⟩:=info_parts infoBool
 have h:=run_make (P:=Tryz.prog) w 47 4 i0 (.bool false) Tryz.underlying47 hi0 hz0 .i64 .i64 256 256 (by omega) (by omega) (by rw [hz2];omega) (by omega)
 rw [hz1] at h
 have e:(256:Int).toNat*1=256:=rfl
 rw [e,made_bools] at h
 exact h
theorem kept_drop {b a g:Nat} {w w3 w4:World} (k1:Kept [b] w w3) (k2:Kept [b,a,g] w3 w4) (ha:w.heap.size≤a) (hg:w.heap.size≤g):Kept [b] w w4:=
 ⟨k2.os.trans k1.os,k2.tape.trans k1.tape,k2.output.trans k1.output,Nat.le_trans k1.size k2.size,fun k hk hs=>
  (k2.block k (Nat.lt_of_lt_of_le hk k1.size) (by simp at hs ⊢;omega)).trans (k1.block k hk hs)⟩
theorem leaf_mem {w w':World} {b a g:Nat} {t:ByteArray} {s s':RS} {ps:List PN} {adrs:List Nat} {F:Nat→Prop} {p:PN} (h:RM w b t s ps adrs F) (r:RR w' b t s') (k:Kept [b] w w')
 (hp:p.kids=[]∧p.kind≤3∧p.least=0∧p.most=0) (ha:w.heap.size≤a) (hg:w.heap.size≤g)
 (hpa:Blk w' a #[.int .i64 p.kind,.slice (some ⟨g,0,none⟩) 256 256,.bool p.neg,.slice none 0 0,.int .i64 0,.int .i64 0] 164) (hpg:Blk w' g (boolCells p.ins) 4):
 RMem w w' b t adrs F (pushP p (s',ps)) (.pointer (some ⟨a,0,none⟩)):=by
 obtain ⟨e1,e2,e3,e4⟩:=hp
 have hb:=h.rr.blk.lt
 refine ⟨⟨[a],fun k=>F k∨k=a∨k=g,RM.push (h.scan r k) (fun k hk=>Or.inl hk) (fun x hx=>?_) (fun x hx=>by rw [e1] at hx;cases hx) (iv:=(some ⟨g,0,none⟩,256,256)) (kv:=(none,0,0)) ⟨?_,Or.inr (Or.inl rfl),Or.inl ⟨e2,g,rfl,Or.inr (Or.inr rfl),hpg⟩,?_,fun x hx=>by cases hx⟩,fun k hk=>Or.inl hk,fun x hx=>?_,?_⟩,k,?_⟩
 · rcases hx with hx | rfl | rfl
   · exact ⟨Nat.lt_of_lt_of_le (h.old x hx).1 k.size,(h.old x hx).2⟩
   · exact ⟨hpa.lt,by omega⟩
   · exact ⟨hpg.lt,by omega⟩
 · rw [e3,e4];exact hpa
 · rw [e1];exact World.ownsRow_nil _ _ _ _
 · rcases hx with hx | rfl | rfl
   · exact Or.inl hx
   · exact Or.inr ha
   · exact Or.inr hg
 · simp [pushP,ptrTo,List.getD,←h.len]
 · simp [pushP]
def RAtomC (t:ByteArray) (b:Nat) (s:RS) (ps:List PN) (adrs:List Nat) (F:Nat→Prop) (w:World):Prop:=
 Calls Tryz.prog 100 #[.pointer (some ⟨b,0,none⟩)] w fun e w'=>∃r pv,e=.returned pv∧EvR t 3 [] (s,ps) r∧RMem w w' b t adrs F r pv∧s.1<r.2.1.1
theorem openR_1 (t:ByteArray) (s:RS):(openR t s).1=s.1:=by unfold openR;split <;> rfl
theorem one_set {c:Int} {f:Nat→Bool} {i:Nat} (hi:(i:Int)=c) (hf:f=fun _=>false):∀j,j<256→one c j=if j=i then true else f j:=by
 intro j hj
 unfold one
 rw [hf]
 by_cases h:j=i
 · rw [if_pos h,decide_eq_true (by omega)]
 · rw [if_neg h,decide_eq_false (by omega)]
theorem itemsG_ge (t:ByteArray):∀(n:Nat) (s:RS) (f:Nat→Bool),s.1≤(itemsG t n s f).1.1
 | 0,s,f=>Nat.le_refl _
 | n+1,s,f=>by
   rw [itemsG]
   split
   · exact Nat.le_refl _
   · split
     · exact Nat.le_trans itemR_ge take_ge
     · exact Nat.le_trans (Nat.le_trans itemR_ge take_ge) (itemsG_ge t n _ _)
theorem itemsR_ge {t:ByteArray} {s:RS} {f:Nat→Bool}:s.1≤(itemsR t s f).1.1:=itemsG_ge t _ s f
theorem ratom_plain (b:Nat) (t:ByteArray) (s:RS) (ps:List PN) (adrs:List Nat) (F:Nat→Prop) (w:World) (h:RM w b t s ps adrs F) (hp:s.1<t.size) (hc:(tkS t (openR t s)).1≠40):RAtomC t b s ps adrs F w:=by
 have ev:Hid (EvR t 3 [] (s,ps) _):=EvR.plain (st:=(s,ps)) hc
 have hmk:=make_bools
 have hb:=h.rr.blk.lt
 have hcb:((tkS t (openR t s)).1==40)=false:=by simpa using hc
 have hcbd:=tk_bd t (openR t s)
 have hprog:s.1<(tkS t (openR t s)).2.1:=by
  have:(tkS t (openR t s)).2.1=(openR t s).1+1:=by unfold tkS;rw [if_pos (by rw [openR_1];exact hp)]
  rw [this,openR_1];omega
 clear hc
 unfold RAtomC
 go_enter Tryz.func100,Tryz.ntmps100
 go_wp2_with fail
 refine (stands4 b t s _ h.rr).mono ?_
 rintro e w1 ⟨rfl,h1,k1⟩
 have c1:=h1.c1
 have f1:=h1.f 1
 go_upto_if 9 with fail
 go_cut [] (fun wx=>RR wx b t (openR t s)∧Kept [b] w wx)
 case first=>
  go_wp2_with fail
  · have hq:stB t s [42,43,63,123]=true:=by assumption
    have e:Hid (openR t s=markS s):=if_pos hq
    go_meet
    rw [e.out]
    exact ⟨h1.mark,k1.setCell (by simp) _⟩
  · have hq:stB t s [42,43,63,123]=false:=by assumption
    have e:Hid (openR t s=s):=if_neg (by rw [hq];decide)
    go_meet
    rw [e.out]
    exact ⟨h1,k1⟩
 case rest=>
  obtain ⟨r2,k2⟩:=hcut
  clear h1 k1 c1 f1
  go_wp2_with fail
  have hsz:=k2.size
  have ra:∀o1 o2,RR ((wc.alloc o1).alloc o2) b t (openR t s):=fun o1 o2=>r2.kept (((Kept.refl [] wc).alloc o1).alloc o2) (by simp)
  have ka:∀o1 o2,Kept [b] w ((wc.alloc o1).alloc o2):=fun o1 o2=>(k2.alloc o1).alloc o2
  refine (rtake_any b t _ _ (ra _ _)).mono ?_
  rintro e w3 ⟨rfl,r3,k3⟩
  have bg:Blk w3 wc.heap.size (boolCells (fun _=>false)) 4:=Blk.kept ((Blk.new wc _ _).alloc _) k3 (by simp;omega)
  have ba:Blk w3 (wc.heap.size+1) #[.int .i64 1,.slice (some ⟨wc.heap.size,0,none⟩) 256 256,.bool false,.slice none 0 0,.int .i64 0,.int .i64 0] 164:=by
   have h0:=Blk.new (wc.alloc (.cells (boolCells (fun _=>false)) 4)) #[.int .i64 1,.slice (some ⟨wc.heap.size,0,none⟩) 256 256,.bool false,.slice none 0 0,.int .i64 0,.int .i64 0] 164
   have e:(wc.alloc (.cells (boolCells (fun _=>false)) 4)).heap.size=wc.heap.size+1:=by simp
   rw [e] at h0
   exact h0.kept k3 (by simp;omega)
  have k4:Kept [b] w w3:=(ka _ _).trans k3
  clear k2 k3 ra ka r2
  have hbw:b<wc.heap.size:=by omega
  obtain ⟨g,hg⟩:∃g,g=wc.heap.size:=⟨_,rfl⟩
  rw [←hg] at bg ba hbw hsz ⊢
  generalize hcc:(tkS t (openR t s))=c at *
  obtain ⟨c,s2⟩:=c
  simp only [] at hcb hcbd hprog r3
  have hgH:Hid (_=_):=hg
  have hccH:Hid (_=_):=hcc
  clear hg hcc
  have a0:=ba.cell 0
  have a1:=ba.cell 1
  have a2:=ba.cell 2
  have f0:=ba.frozen 0
  have f2:=ba.frozen 2
  have cell1:∀n:Nat,n<256→w3.cell? ⟨g,n,none⟩=some (.bool false)∧w3.frozen? ⟨g,n,none⟩=false:=fun n hn=>⟨by rw [bg.cell,boolCells_get _ hn],bg.frozen n⟩
  have hrr:∀(k:Int) (n:Nat),RR ((w3.setCell ⟨g+1,0,none⟩ (.int .i64 k)).setCell ⟨g,n,none⟩ (.bool true)) b t s2:=fun k n=>
   ⟨Blk.other (Blk.other r3.blk _ _ (by omega)) _ _ (by omega),r3.fits,r3.small⟩
  -- a byte's truth is laid,the kind being set or not
  have fin1:∀(n:Nat),n<256→plainR t c (s2,ps)=pushP { kind:=1,ins:=one n } (s2,ps)→RMem w (w3.setCell ⟨g,n,none⟩ (.bool true)) b t adrs F (plainR t c (s2,ps)) (.pointer (some ⟨g+1,0,none⟩)):=by
   intro n hn e
   rw [e]
   exact leaf_mem (g:=g) h ⟨Blk.other r3.blk _ _ (by omega),r3.fits,r3.small⟩ (k4.setCell (Or.inr (by show w.heap.size≤g;omega)) _) ⟨rfl,by show (1:Int)≤3;decide,rfl,rfl⟩ (by omega) (by omega)
    (Blk.other ba _ _ (by omega)) (by have:=bg.set n (.bool true);rwa [boolCells_set _ (one n) n (one_set rfl rfl)] at this)
  have fin2:∀(n:Nat) (k:Int),n<256→k≤3→plainR t c (s2,ps)=pushP { kind:=k,ins:=one n } (s2,ps) →
   RMem w ((w3.setCell ⟨g+1,0,none⟩ (.int .i64 k)).setCell ⟨g,n,none⟩ (.bool true)) b t adrs F (plainR t c (s2,ps)) (.pointer (some ⟨g+1,0,none⟩)):=by
   intro n k hn hk e
   rw [e]
   exact leaf_mem (g:=g) h (hrr k n) ((k4.setCell (Or.inr (by show w.heap.size≤g+1;omega)) _).setCell (Or.inr (by show w.heap.size≤g;omega)) _) ⟨rfl,hk,rfl,rfl⟩ (by omega) (by omega)
    (Blk.other (ba.set 0 _) _ _ (by omega)) (by have:=(Blk.other bg 0 (.int .i64 k) (show g≠g+1 by omega)).set n (.bool true);rwa [boolCells_set _ (one n) n (one_set rfl rfl)] at this)
  have fin1H:Hid (∀(n:Nat),_):=fin1
  have fin2H:Hid (∀(n:Nat) (k:Int),_):=fin2
  have cell1H:Hid (∀(n:Nat),_):=cell1
  clear hrr fin1 fin2 cell1
  by_cases c1:c=91
  · subst c1
    have e:Hid (plainR t 91 (s2,ps)=_):=show plainR t 91 (s2,ps)=pushP { kind:=1,ins:=(itemsR t (takeS t 94 s2).2 (fun _=>false)).2,neg:=(takeS t 94 s2).1 } ((itemsR t (takeS t 94 s2).2 (fun _=>false)).1,ps) from rfl
    go_wp2_with fail
    refine (rlist_any b (g+1) g t s2 _ r3 ba bg (by omega) (by omega) (by omega)).mono ?_
    rintro e5 w5 ⟨rfl,m5⟩
    go_wp2
    go_ret
    refine ⟨_,_,rfl,ev.out,?_,?_⟩
    · show RMem w w5 b t adrs F (plainR t 91 (s2,ps)) _
      rw [e.out]
      exact leaf_mem (g:=g) h m5.rr (kept_drop k4 m5.kept (by omega) (by omega)) ⟨rfl,by show (1:Int)≤3;decide,rfl,rfl⟩ (by omega) (by omega) m5.part m5.ins
    · show s.1<(plainR t 91 (s2,ps)).2.1.1
      rw [e.out]
      exact Nat.lt_of_lt_of_le hprog (Nat.le_trans take_ge itemsR_ge)
  by_cases c2:c=94
  · subst c2
    have m:=fin2H.out 94 2 (by omega) (by omega) rfl
    obtain ⟨d1,d2⟩:=cell1H.out 94 (by omega)
    have m:Hid (RMem _ _ _ _ _ _ _ _):=m
    go_wp2
    go_ret
    exact ⟨_,_,rfl,ev.out,m.out,hprog⟩
  by_cases c3:c=36
  · subst c3
    have m:=fin2H.out 36 3 (by omega) (by omega) rfl
    obtain ⟨d1,d2⟩:=cell1H.out 36 (by omega)
    have m:Hid (RMem _ _ _ _ _ _ _ _):=m
    go_wp2
    go_ret
    exact ⟨_,_,rfl,ev.out,m.out,hprog⟩
  by_cases c4:c=46
  · subst c4
    have m:RMem w (w3.setCell ⟨g+1,2,none⟩ (.bool true)) b t adrs F (plainR t 46 (s2,ps)) (.pointer (some ⟨g+1,0,none⟩)):=by
     show RMem w _ b t adrs F (pushP { kind:=1,neg:=true } (s2,ps)) _
     exact leaf_mem (g:=g) h ⟨Blk.other r3.blk _ _ (by omega),r3.fits,r3.small⟩ (k4.setCell (Or.inr (by show w.heap.size≤g+1;omega)) _) ⟨rfl,by show (1:Int)≤3;decide,rfl,rfl⟩ (by omega) (by omega)
      (ba.set 2 _) (Blk.other bg _ _ (by omega))
    have m:Hid (RMem _ _ _ _ _ _ _ _):=m
    go_wp2
    go_ret
    exact ⟨_,_,rfl,ev.out,m.out,hprog⟩
  by_cases c5:c=92
  · subst c5
    have bd2:=tk_bd t s2
    go_wp2_with fail
    refine (rtake_any b t _ _ r3).mono ?_
    generalize hdd:(tkS t s2)=d at *
    obtain ⟨d,s4⟩:=d
    simp only [] at bd2
    obtain ⟨n,rfl⟩:=Int.eq_ofNat_of_zero_le bd2.1
    rintro e6 w5 ⟨rfl,r5,k5⟩
    have hn:n<256:=by omega
    have bg5:=bg.kept k5 (by simp;omega)
    have ba5:=ba.kept k5 (by simp;omega)
    have d1:w5.cell? ⟨g,n,none⟩=some (.bool false):=by rw [bg5.cell,boolCells_get _ hn]
    have d2:=bg5.frozen n
    have d3:=ba5.cell 1
    have hge:=tk_ge (t:=t) (s:=s2)
    rw [hdd] at hge
    have m:RMem w (w5.setCell ⟨g,n,none⟩ (.bool true)) b t adrs F (pushP { kind:=1,ins:=one n } (s4,ps)) (.pointer (some ⟨g+1,0,none⟩)):=
     leaf_mem (g:=g) h ⟨Blk.other r5.blk _ _ (by omega),r5.fits,r5.small⟩ ((k4.trans k5).setCell (Or.inr (by show w.heap.size≤g;omega)) _) ⟨rfl,by show (1:Int)≤3;decide,rfl,rfl⟩ (by omega) (by omega)
      (Blk.other ba5 _ _ (by omega)) (by have:=bg5.set n (.bool true);rwa [boolCells_set _ (one n) n (one_set rfl rfl)] at this)
    have e:Hid (plainR t 92 (s2,ps)=pushP { kind:=1,ins:=one n } (s4,ps)):=by
     show pushP { kind:=1,ins:=one (tkS t s2).1 } ((tkS t s2).2,ps)=_
     rw [hdd]
    have m:Hid (RMem _ _ _ _ _ _ _ _):=m
    clear hdd
    go_wp2
    go_ret
    refine ⟨_,_,rfl,ev.out,?_,?_⟩
    · show RMem w _ b t adrs F (plainR t 92 (s2,ps)) _
      rw [e.out];exact m.out
    · show s.1<(plainR t 92 (s2,ps)).2.1.1
      rw [e.out]
      exact Nat.lt_of_lt_of_le hprog hge
  · have e1:=beq_eq_false_iff_ne.2 c1
    have e2:=beq_eq_false_iff_ne.2 c2
    have e3:=beq_eq_false_iff_ne.2 c3
    have e4:=beq_eq_false_iff_ne.2 c4
    have e5:=beq_eq_false_iff_ne.2 c5
    obtain ⟨n,rfl⟩:=Int.eq_ofNat_of_zero_le hcbd.1
    have m:=fin1H.out n (by omega) (by unfold plainR;rw [if_neg c1,if_neg c2,if_neg c3,if_neg c4,if_neg c5])
    obtain ⟨d1,d2⟩:=cell1H.out n (by omega)
    have m:Hid (RMem _ _ _ _ _ _ _ _):=m
    have hn:n<256:=by omega
    have hpr:s.1<(plainR t (n:Int) (s2,ps)).2.1.1:=by unfold plainR;rw [if_neg c1,if_neg c2,if_neg c3,if_neg c4,if_neg c5];exact hprog
    clear c1 c2 c3 c4 c5
    go_wp2
    go_ret
    exact ⟨_,_,rfl,ev.out,m.out,hpr⟩
def RChC (t:ByteArray) (m:Nat):Prop:=
 ∀(b:Nat) (s:RS) (ps:List PN) (adrs:List Nat) (F:Nat→Prop) (w:World),t.size-s.1<m→RM w b t s ps adrs F →
  Calls Tryz.prog 39 #[.pointer (some ⟨b,0,none⟩)] w fun e w'=>∃r pv,e=.returned pv∧EvR t 0 [] (s,ps) r∧RMem w w' b t adrs F r pv∧s.1≤r.2.1.1
theorem RMem.scan {w w' w2:World} {b:Nat} {t:ByteArray} {adrs:List Nat} {F:Nat→Prop} {r:Nat×RP} {pv:Value} {s':RS} (h:RMem w w' b t adrs F r pv) (r2:RR w2 b t s') (k:Kept [b] w' w2):
 RMem w w2 b t adrs F (r.1,(s',r.2.2)) pv:=by
 obtain ⟨⟨more,F',h1,h2,h3,h4⟩,h5,h6⟩:=h
 exact ⟨⟨more,F',h1.scan r2 k,h2,h3,h4⟩,h5.trans k,h6⟩
theorem RMem.from {w0 w w':World} {b:Nat} {t:ByteArray} {adrs:List Nat} {F:Nat→Prop} {r:Nat×RP} {pv:Value} (h:RMem w w' b t adrs F r pv) (k:Kept [b] w0 w):RMem w0 w' b t adrs F r pv:=by
 obtain ⟨⟨more,F',h1,h2,h3,h4⟩,h5,h6⟩:=h
 exact ⟨⟨more,F',h1,h2,fun x hx=>(h3 x hx).imp id (fun hx=>Nat.le_trans k.size hx),h4⟩,k.trans h5,h6⟩
theorem RMem.rr {w w':World} {b:Nat} {t:ByteArray} {adrs:List Nat} {F:Nat→Prop} {r:Nat×RP} {pv:Value} (h:RMem w w' b t adrs F r pv):RR w' b t r.2.1:=by
 obtain ⟨⟨more,F',h1,_⟩,_⟩:=h;exact h1.rr
theorem RMem.ptr {w w':World} {b:Nat} {t:ByteArray} {adrs:List Nat} {F:Nat→Prop} {r:Nat×RP} {pv:Value} (h:RMem w w' b t adrs F r pv):∃x,pv=.pointer (some ⟨x,0,none⟩):=by
 obtain ⟨⟨more,F',_,_,_,h4⟩,_⟩:=h;exact ⟨_,h4⟩
theorem ratom_group (m:Nat) (b:Nat) (t:ByteArray) (s:RS) (ps:List PN) (adrs:List Nat) (F:Nat→Prop) (w:World) (H:RChC t m) (h:RM w b t s ps adrs F) (hp:s.1<t.size) (hpm:t.size-s.1≤m) (hc:(tkS t (openR t s)).1=40):RAtomC t b s ps adrs F w:=by
 have ev:Hid (∀r1,EvR t 0 [] ((tkS t (openR t s)).2,ps) r1→EvR t 3 [] (s,ps) (closeR t r1)):=fun r1 h1=>EvR.group (st:=(s,ps)) hc h1
 have hmk:=make_bools
 have hb:=h.rr.blk.lt
 have hprog:s.1<(tkS t (openR t s)).2.1:=by
  have:(tkS t (openR t s)).2.1=(openR t s).1+1:=by unfold tkS;rw [if_pos (by rw [openR_1];exact hp)]
  rw [this,openR_1];omega
 unfold RAtomC
 go_enter Tryz.func100,Tryz.ntmps100
 go_wp2_with fail
 refine (stands4 b t s _ h.rr).mono ?_
 rintro e w1 ⟨rfl,h1,k1⟩
 have c1:=h1.c1
 have f1:=h1.f 1
 go_upto_if 9 with fail
 go_cut [] (fun wx=>RR wx b t (openR t s)∧Kept [b] w wx)
 case first=>
  go_wp2_with fail
  · have hq:stB t s [42,43,63,123]=true:=by assumption
    have e:Hid (openR t s=markS s):=if_pos hq
    go_meet
    rw [e.out]
    exact ⟨h1.mark,k1.setCell (by simp) _⟩
  · have hq:stB t s [42,43,63,123]=false:=by assumption
    have e:Hid (openR t s=s):=if_neg (by rw [hq];decide)
    go_meet
    rw [e.out]
    exact ⟨h1,k1⟩
 case rest=>
  obtain ⟨r2,k2⟩:=hcut
  clear h1 k1 c1 f1
  go_wp2_with fail
  have hsz:=k2.size
  have ra:∀o1 o2,RR ((wc.alloc o1).alloc o2) b t (openR t s):=fun o1 o2=>r2.kept (((Kept.refl [] wc).alloc o1).alloc o2) (by simp)
  have ka:∀o1 o2,Kept [b] w ((wc.alloc o1).alloc o2):=fun o1 o2=>(k2.alloc o1).alloc o2
  refine (rtake_any b t _ _ (ra _ _)).mono ?_
  rintro e w3 ⟨rfl,r3,k3⟩
  have bg:Blk w3 wc.heap.size (boolCells (fun _=>false)) 4:=Blk.kept ((Blk.new wc _ _).alloc _) k3 (by simp;omega)
  have ba:Blk w3 (wc.heap.size+1) #[.int .i64 1,.slice (some ⟨wc.heap.size,0,none⟩) 256 256,.bool false,.slice none 0 0,.int .i64 0,.int .i64 0] 164:=by
   have h0:=Blk.new (wc.alloc (.cells (boolCells (fun _=>false)) 4)) #[.int .i64 1,.slice (some ⟨wc.heap.size,0,none⟩) 256 256,.bool false,.slice none 0 0,.int .i64 0,.int .i64 0] 164
   have e:(wc.alloc (.cells (boolCells (fun _=>false)) 4)).heap.size=wc.heap.size+1:=by simp
   rw [e] at h0
   exact h0.kept k3 (by simp;omega)
  have k4:Kept [b] w w3:=(ka _ _).trans k3
  clear k2 k3 ra ka r2
  have hbw:b<wc.heap.size:=by omega
  obtain ⟨g,hg⟩:∃g,g=wc.heap.size:=⟨_,rfl⟩
  rw [←hg] at bg ba hbw hsz ⊢
  have hm3:=h.scan r3 k4
  generalize hcc:(tkS t (openR t s))=c at *
  obtain ⟨c,s2⟩:=c
  simp only [] at hc hprog r3 hm3
  subst hc
  have hH:Hid (Calls _ _ _ _ _):=H b s2 ps adrs F w3 (by omega) hm3
  clear hcc hg bg ba
  go_wp2_with fail
  refine hH.out.mono ?_
  clear hH
  rintro e4 w4 ⟨r,pv,rfl,ev4,m4,hge⟩
  obtain ⟨x,rfl⟩:=m4.ptr
  have rr4:=m4.rr
  cases hcl:(takeS t 41 r.2.1).1 with
  | true=>
    have e:Hid (closeR t r=(r.1,((takeS t 41 r.2.1).2,r.2.2))):=by show closeR t r=_;unfold closeR;rw [if_pos hcl]
    go_wp2_with fail
    refine (rnext_any b 41 t _ _ rr4 (by omega) (by omega)).mono ?_
    rintro e5 w5 ⟨rfl,r5,k5⟩
    have m5:Hid (RMem _ _ _ _ _ _ _ _):=(m4.scan r5 k5).from k4
    go_wp2
    go_ret
    refine ⟨closeR t r,_,rfl,ev.out r ev4,by rw [e.out];exact m5.out,?_⟩
    rw [e.out]
    exact Nat.lt_of_lt_of_le hprog (Nat.le_trans hge take_ge)
  | false=>
    have e:Hid (closeR t r=(r.1,(markS (takeS t 41 r.2.1).2,r.2.2))):=by show closeR t r=_;unfold closeR;rw [if_neg (by rw [hcl];decide)]
    go_wp2_with fail
    refine (rnext_any b 41 t _ _ rr4 (by omega) (by omega)).mono ?_
    rintro e5 w5 ⟨rfl,r5,k5⟩
    have c5:=r5.c1
    have f5:=r5.f 1
    have m5:Hid (RMem _ _ _ _ _ _ _ _):=(m4.scan (s':=markS (takeS t 41 r.2.1).2) (w2:=w5.setCell ⟨b,1,none⟩ (.bool true)) r5.mark (k5.setCell (by simp) _)).from k4
    go_wp2
    go_ret
    refine ⟨closeR t r,_,rfl,ev.out r ev4,by rw [e.out];exact m5.out,?_⟩
    rw [e.out]
    exact Nat.lt_of_lt_of_le hprog (Nat.le_trans hge take_ge)
theorem ratom_any (m:Nat) (b:Nat) (t:ByteArray) (s:RS) (ps:List PN) (adrs:List Nat) (F:Nat→Prop) (w:World) (H:RChC t m) (h:RM w b t s ps adrs F) (hp:s.1<t.size) (hpm:t.size-s.1≤m):RAtomC t b s ps adrs F w:=by
 by_cases hc:(tkS t (openR t s)).1=40
 · exact ratom_group m b t s ps adrs F w H h hp hpm hc
 · exact ratom_plain b t s ps adrs F w h hp hc
def restW (w:World) (b:Nat):Nat:=match w.cell? ⟨b,0,none⟩ with | some (.string x)=>x.size | _=>0
theorem restW_eq {w:World} {b:Nat} {t:ByteArray} {s:RS} (h:RR w b t s):restW w b=t.size-s.1:=by
 unfold restW;rw [h.c0];simp [sfx_size]
theorem times_mem {w w2 w':World} {b Y:Nat} {t:ByteArray} {adrs:List Nat} {F:Nat→Prop} {r:Nat×RP} {pv:Value} {s':RS} {p:PN} {kv:IV}
 (h:RMem w w2 b t adrs F r pv) (r':RR w' b t s') (k:Kept [b] w2 w') (hY:w2.heap.size≤Y)
 (hkind:3<p.kind) (hkids:∀x,x∈p.kids→x<r.2.2.length)
 (hp:Blk w' Y #[.int .i64 p.kind,.slice none 0 0,.bool p.neg,.slice kv.1 kv.2.1 kv.2.2,.int .i64 p.least,.int .i64 p.most] 164)
 (hrow:∀more F',RM w2 b t r.2.1 r.2.2 (adrs++more) F'→pv=ptrTo (adrs++more) r.1→w'.ownsRow 0 81 1 (ivV kv) p.kids.length (p.kids.map (ptrTo (adrs++more))))
 (hnew:∀g,(ivV kv).ownBlock=some g→w2.heap.size≤g∧g<w'.heap.size):
 RMem w w' b t adrs F (pushP p (s',r.2.2)) (.pointer (some ⟨Y,0,none⟩)):=by
 obtain ⟨⟨more,F',h1,h2,h3,h4⟩,h5,h6⟩:=h
 have hb:=h1.rr.blk.lt
 have hsz:=h5.size
 refine ⟨⟨more++[Y],fun x=>F' x∨x=Y∨(ivV kv).ownBlock=some x,?_,fun x hx=>Or.inl (h2 x hx),fun x hx=>?_,?_⟩,h5.trans k,by simp [pushP]⟩
 · rw [←List.append_assoc]
   refine RM.push (h1.scan r' k) (fun x hx=>Or.inl hx) (fun x hx=>?_) hkids (iv:=(none,0,0)) (kv:=kv) ⟨hp,Or.inr (Or.inl rfl),Or.inr ⟨hkind,rfl⟩,hrow more F' h1 h4,fun g hg=>Or.inr (Or.inr hg)⟩
   rcases hx with hx | rfl | hx
   · exact ⟨Nat.lt_of_lt_of_le (h1.old x hx).1 k.size,(h1.old x hx).2⟩
   · exact ⟨hp.lt,by omega⟩
   · have:=hnew x hx;exact ⟨this.2,by omega⟩
 · rcases hx with hx | rfl | hx
   · exact h3 x hx
   · exact Or.inr (by omega)
   · have:=hnew x hx;exact Or.inr (by omega)
 · have e:(adrs++(more++[Y])).getD r.2.2.length 0=Y:=by
    rw [←List.append_assoc,←h1.len];simp [List.getD]
   simp only [pushP,ptrTo,e]
theorem row_one (w:World) (x:Value) (e:TypeId) (k:Nat) (hk:k=w.heap.size):(w.alloc (.cells #[x] e)).ownsRow 0 e 1 (.slice (some ⟨k,0,none⟩) 1 1) 1 [x]:=by
 subst hk
 exact ⟨rfl,.inr ⟨w.heap.size,1,#[x],rfl,Nat.zero_le _,heap_alloc_new w _,Nat.le_refl _,by unfold maxLen;omega,rfl,rfl⟩⟩
theorem row_kept {S:List Nat} {w w':World} {e:TypeId} {z n g c:Nat} {xs:List Value} (h:w.ownsRow 0 e z (.slice (some ⟨g,0,none⟩) n c) n xs) (k:Kept S w w') (hg:¬g∈S):w'.ownsRow 0 e z (.slice (some ⟨g,0,none⟩) n c) n xs:=by
 refine ⟨h.1,?_⟩
 rcases h.2 with ⟨h1,_⟩ | ⟨g',cap,cur,h1,h2,h3,r⟩
 · cases h1
 · simp only [Value.slice.injEq,Option.some.injEq,Addr.mk.injEq,and_true] at h1
   obtain ⟨e1,_,e2⟩:=h1
   subst e1 e2
   exact Or.inr ⟨g,c,cur,rfl,h2,(k.block g (Array.getElem?_eq_some_iff.1 h3).1 hg).trans h3,r⟩
theorem stB_lt {t:ByteArray} {s:RS} {l:List UInt8} (h:stB t s l=true):s.1<t.size:=by
 by_cases hp:s.1<t.size
 · exact hp
 · rw [stB_none hp] at h;cases h
theorem stB_rep {t:ByteArray} {s:RS} (h:stB t s [42,43,63,123]=true):pk t s.1=42∨pk t s.1=43∨pk t s.1=63∨pk t s.1=123:=by
 simp only [stB,List.any_cons,List.any_nil,Bool.or_false,Bool.or_eq_true,beq_iff_eq] at h
 exact h
theorem bndR_ge {t:ByteArray} {s:RS}:s.1≤(bndR t s).2.1:=by
 have h1:=tk_ge (t:=t) (s:=s)
 have h2:=take_ge (t:=t) (c:=44) (s:=(tkS t s).2)
 have h3:=take_ge (t:=t) (c:=125) (s:=(takeS t 44 (tkS t s).2).2)
 have h4:=tk_ge (t:=t) (s:=(takeS t 125 (takeS t 44 (tkS t s).2).2).2)
 have h5:=take_ge (t:=t) (c:=125) (s:=(tkS t (takeS t 125 (takeS t 44 (tkS t s).2).2).2).2)
 have hm:s.1≤(bndMost t s).2.2.1:=by
  unfold bndMost
  simp only []
  split
  · simp only [];omega
  · split
    · simp only [];split
      · simp only [markS];omega
      · omega
    · simp only [];omega
 unfold bndR
 simp only []
 split
 · exact hm
 · exact hm
theorem rpiece_any (m:Nat) (b:Nat) (t:ByteArray) (s:RS) (ps:List PN) (adrs:List Nat) (F:Nat→Prop) (w:World) (H:RChC t m) (h:RM w b t s ps adrs F) (hp:s.1<t.size) (hpm:t.size-s.1≤m):
 Calls Tryz.prog 74 #[.pointer (some ⟨b,0,none⟩)] w fun e w'=>∃r pv,e=.returned pv∧EvR t 2 [] (s,ps) r∧RMem w w' b t adrs F r pv∧s.1<r.2.1.1:=by
 have ha:=ratom_any m b t s ps adrs F w H h hp hpm
 unfold RAtomC at ha
 have haH:Hid (Calls _ _ _ _ _):=ha
 clear ha H h
 go_enter Tryz.func74,Tryz.ntmps74
 go_wp2_with fail
 refine haH.out.mono ?_
 clear haH
 rintro e w1 ⟨r1,pv1,rfl,ev1,m1,hp1⟩
 obtain ⟨x1,rfl⟩:=m1.ptr
 go_wp2_with fail
 go_loopw [3] (fun x wr=>∃(r:Nat×RP) (y:Nat),x=.pointer (some ⟨y,0,none⟩)∧RMem w wr b t adrs F r (.pointer (some ⟨y,0,none⟩))∧(∀r',EvR t 4 [r.1] r.2 r'→EvR t 2 [] (s,ps) r')∧s.1<r.2.1.1) (fun _ wr=>restW wr b)
 case atStart=>exact ⟨r1,x1,rfl,m1,fun r' e=>EvR.piece ev1 e,hp1⟩
 case round=>
  obtain ⟨r,y,rfl,m,ev,hpr⟩:=hrel
  have evH:Hid (∀r',_):=ev
  clear ev
  have c1:=m.rr.c1
  have hrw:Hid (_=_):=restW_eq m.rr
  cases hbad:r.2.1.2 with
  | true=>
    have e:Hid (EvR t 2 [] (s,ps) r):=evH.out r (EvR.repEnd (Or.inl hbad))
    rw [hbad] at c1
    go_wp2
    go_ret
    exact ⟨r,_,rfl,e.out,m,hpr⟩
  | false=>
    rw [hbad] at c1
    cases hq:stB t r.2.1 [42,43,63,123] with
    | false=>
      have e:Hid (EvR t 2 [] (s,ps) r):=evH.out r (EvR.repEnd (Or.inr hq))
      go_wp2_with fail
      refine (stands4 b t _ _ m.rr).mono ?_
      rintro e2 w2 ⟨rfl,r2,k2⟩
      have m2:Hid (RMem _ _ _ _ _ _ _ _):=m.scan r2 k2
      go_wp2
      go_ret
      exact ⟨r,_,rfl,e.out,m2.out,hpr⟩
    | true=>
      have hlt:=stB_lt hq
      have hcs:=stB_rep hq
      have htk:tkS t r.2.1=(pk t r.2.1.1,(r.2.1.1+1,r.2.1.2)):=if_pos hlt
      have ev:Hid (∀r',_):=fun r' h'=>evH.out r' (EvR.rep (r:=r') hbad hq h')
      clear evH
      go_wp2_with fail
      refine (stands4 b t _ _ m.rr).mono ?_
      rintro e2 w2 ⟨rfl,r2,k2⟩
      go_wp2_with fail
      refine (rtake_any b t _ _ r2).mono ?_
      rintro e3 w3 ⟨rfl,r3,k3⟩
      have m3:=m.scan r3 (k2.trans k3)
      clear m r2 k2 k3
      have hb3:=r3.blk.lt
      have hrow:(w3.alloc (.cells #[.pointer (some ⟨y,0,none⟩)] 81)).ownsRow 0 81 1 (.slice (some ⟨w3.heap.size,0,none⟩) 1 1) 1 [.pointer (some ⟨y,0,none⟩)]:=row_one _ _ _ _ rfl
      have hrowH:Hid (∀o,((w3.alloc (.cells #[.pointer (some ⟨y,0,none⟩)] 81)).alloc o).ownsRow 0 81 1 (.slice (some ⟨w3.heap.size,0,none⟩) 1 1) 1 [.pointer (some ⟨y,0,none⟩)]):=fun o=>hrow.alloc o
      clear hrow
      have hblk:∀l m:Int,Blk ((w3.alloc (.cells #[.pointer (some ⟨y,0,none⟩)] 81)).alloc (.cells #[.int .i64 6,.slice none 0 0,.bool false,.slice (some ⟨w3.heap.size,0,none⟩) 1 1,.int .i64 l,.int .i64 m] 164)) (w3.heap.size+1) #[.int .i64 6,.slice none 0 0,.bool false,.slice (some ⟨w3.heap.size,0,none⟩) 1 1,.int .i64 l,.int .i64 m] 164:=by
       intro l m
       have h0:=Blk.new (w3.alloc (.cells #[.pointer (some ⟨y,0,none⟩)] 81)) #[.int .i64 6,.slice none 0 0,.bool false,.slice (some ⟨w3.heap.size,0,none⟩) 1 1,.int .i64 l,.int .i64 m] 164
       rwa [show (w3.alloc (.cells #[.pointer (some ⟨y,0,none⟩)] 81)).heap.size=w3.heap.size+1 by simp] at h0
      have hkw:∀o1 o2,Kept [b] w3 ((w3.alloc o1).alloc o2):=fun o1 o2=>((Kept.refl _ _).alloc o1).alloc o2
      have hrr:∀o1 o2,RR ((w3.alloc o1).alloc o2) b t (tkS t r.2.1).2:=fun o1 o2=>r3.kept (((Kept.refl [] _).alloc o1).alloc o2) (by simp)
      -- the new part,however its bounds have come about
      have fin:∀(w5:World) (s':RS) (least most:Int),RR w5 b t s'→Kept [b] w3 w5→Blk w5 (w3.heap.size+1) #[.int .i64 6,.slice none 0 0,.bool false,.slice (some ⟨w3.heap.size,0,none⟩) 1 1,.int .i64 least,.int .i64 most] 164 →
       w5.ownsRow 0 81 1 (.slice (some ⟨w3.heap.size,0,none⟩) 1 1) 1 [.pointer (some ⟨y,0,none⟩)]→repR t r.2.1=((least,most),s')→r.2.1.1<s'.1 →
       (∃(r':Nat×RP) (y':Nat),Value.pointer (some ⟨w3.heap.size+1,0,none⟩)=.pointer (some ⟨y',0,none⟩)∧RMem w w5 b t adrs F r' (.pointer (some ⟨y',0,none⟩))∧(∀r'',EvR t 4 [r'.1] r'.2 r''→EvR t 2 [] (s,ps) r'')∧s.1<r'.2.1.1)∧restW w5 b<restW wr b:=by
       intro w5 s' least most hr5 hk5 hb5 hrow5 hrep hs'
       have hlt5:=hb5.lt
       refine ⟨⟨pushP { kind:=6,kids:=[r.1],least:=(repR t r.2.1).1.1,most:=(repR t r.2.1).1.2 } ((repR t r.2.1).2,r.2.2),w3.heap.size+1,rfl,?_,ev.out,?_⟩,?_⟩
       · rw [hrep]
         exact times_mem (r:=(r.1,((tkS t r.2.1).2,r.2.2))) (kv:=(some ⟨w3.heap.size,0,none⟩,1,1)) (p:={ kind:=6,kids:=[r.1],least:=least,most:=most }) m3 hr5 hk5 (by omega) (by show (3:Int)<6;decide) (fun x hx=>by simp at hx;subst hx;exact m3.idx) hb5
          (fun more F' _ hpv=>by show w5.ownsRow 0 _ 1 _ 1 [ptrTo (adrs++more) r.1];rw [←hpv];exact hrow5) (fun g hg=>by simp [ivV,Value.ownBlock] at hg;subst hg;exact ⟨Nat.le_refl _,by omega⟩)
       · rw [hrep];simp only [pushP];omega
       · rw [restW_eq hr5,hrw.out]
         have:=hr5.fits
         simp only [Fits] at this
         omega
      have finH:Hid (∀(w5:World) (s':RS) (least most:Int),_):=fin
      clear fin ev m3 hrw
      rcases hcs with hcs | hcs | hcs | hcs
      · have hv:(tkS t r.2.1).1=42:=by rw [htk];exact hcs
        have hrep:repR t r.2.1=((0,-1),(tkS t r.2.1).2):=by unfold repR;rw [hv];rfl
        have hs':r.2.1.1<(tkS t r.2.1).2.1:=by rw [htk];exact Nat.lt_succ_self _
        have fH:Hid _:=finH.out _ _ _ _ (hrr _ _) (hkw _ _) (hblk _ _) (hrowH.out _) hrep hs'
        clear hrep htk hcs
        go_wp2
        exact fH.out
      · have hv:(tkS t r.2.1).1=43:=by rw [htk];exact hcs
        have hrep:repR t r.2.1=((1,-1),(tkS t r.2.1).2):=by unfold repR;rw [hv];rfl
        have hs':r.2.1.1<(tkS t r.2.1).2.1:=by rw [htk];exact Nat.lt_succ_self _
        have fH:Hid _:=finH.out _ _ _ _ (hrr _ _) (hkw _ _) (hblk _ _) (hrowH.out _) hrep hs'
        clear hrep htk hcs
        go_wp2
        exact fH.out
      · have hv:(tkS t r.2.1).1=63:=by rw [htk];exact hcs
        have hrep:repR t r.2.1=((0,1),(tkS t r.2.1).2):=by unfold repR;rw [hv];rfl
        have hs':r.2.1.1<(tkS t r.2.1).2.1:=by rw [htk];exact Nat.lt_succ_self _
        have fH:Hid _:=finH.out _ _ _ _ (hrr _ _) (hkw _ _) (hblk _ _) (hrowH.out _) hrep hs'
        clear hrep htk hcs
        go_wp2
        exact fH.out
      · have hv:(tkS t r.2.1).1=123:=by rw [htk];exact hcs
        have hrep:repR t r.2.1=bndR t (tkS t r.2.1).2:=by unfold repR;rw [hv];rfl
        have hs':r.2.1.1<(bndR t (tkS t r.2.1).2).2.1:=Nat.lt_of_lt_of_le (by rw [htk];exact Nat.lt_succ_self _) bndR_ge
        have hrepH:Hid (_=_):=hrep
        clear hrep htk hcs
        go_wp2_with fail
        refine (rbounds_any b (w3.heap.size+1) t _ _ _ (hrr _ _) (hblk _ _) (by omega)).mono ?_
        rintro e5 w5 ⟨rfl,m5⟩
        have fH:Hid _:=finH.out _ _ _ _ m5.rr (kept_drop (hkw _ _) (m5.kept.mono (S':=[b,w3.heap.size+1,w3.heap.size+1]) (by simp)) (by omega) (by omega)) m5.part (row_kept (hrowH.out _) m5.kept (by simp;omega)) hrepH.out hs'
        go_wp2
        exact fH.out
end Go.Proofs.YtgifhgnccmnbiabGreat
