/- Package packed: files of rules, read. -/
import Derived.Test.YtgifhgnccmnbiabGreatG25
set_option linter.unusedVariables false
set_option linter.unusedSimpArgs false
set_option maxHeartbeats 4000000
set_option maxRecDepth 100000
namespace Go.Proofs.YtgifhgnccmnbiabGreat
open Go.RowKit Go.IntWalk
theorem own_low {w:World} {base base':Nat} {e:TypeId} {size:Nat} {v:Value} {n:Nat} {xs:List Value} (h:w.ownsRow base e size v n xs) (hb:base'≤base):w.ownsRow base' e size v n xs:=by
 refine ⟨h.1,?_⟩
 rcases h.2 with h2 | ⟨g,c,u,h3,h4,r⟩
 · exact Or.inl h2
 · exact Or.inr ⟨g,c,u,h3,Nat.le_trans hb h4,r⟩
structure TVal (w:World) (B:Nat) (t:TT) (rv sv:Value):Prop where
 rules:w.ownsRow B 159 6 rv t.rules.length (ruCells t.rules)
 start:w.ownsRow B 3 1 sv t.start.length (symCells t.start)
 small:∀x,x∈t.rules→PTsmall x.pt
 whole:PTsmall t.whole
def ztext:Array Value:=#[.int .i64 0,.int .i64 0,.slice none 0 0,.slice none 0 0,.int .i64 0,.int .i64 0,.int .i64 0,.int .i64 0]
theorem TM.val {w:World} {b E B:Nat} {pre post:Array Value} {t:TT} {rv sv:Value} (h:TM w b pre post E B t rv sv):TVal w B t rv sv:=⟨h.rules,h.start,h.small,h.whole⟩
theorem TVal.mono {w:World} {B C:Nat} {t:TT} {rv sv:Value} (h:TVal w B t rv sv) (hc:C≤B):TVal w C t rv sv:=⟨own_low h.rules hc,own_low h.start hc,h.small,h.whole⟩
theorem TVal.kept {w w':World} {B:Nat} {t:TT} {rv sv:Value} {S:List Nat} (h:TVal w B t rv sv) (k:Kept S w w') (hs:∀g,g∈S→g<B∨w.heap.size≤g):TVal w' B t rv sv:=
 ⟨row_stay h.rules k (fun g hg hc=>by have:=hs g hc;have:=h.rules.lt g hg;omega),row_stay h.start k (fun g hg hc=>by have:=hs g hc;have:=h.start.lt g hg;omega),h.small,h.whole⟩
theorem size_text:(Tryz.prog.info? 61).map (·.size)=some 8:=by kernel_rfl
theorem results_text {fn:Func} {p u:Tmp} (h:fn.results=#[.cell p 61,.tmp u]) (tmps:Array Value) (w:World) (g:Nat) (cs:Array Value) (hs:cs.size=8) (v:Value)
 (hp:tmps.getD p undef=.pointer (some ⟨g,0,none⟩)) (hv:tmps.getD u undef=v) (hg:Blk w g cs 61):(results fn tmps).run Tryz.prog w=.ok (.tuple #[.agg cs,v]) w:=by
 rw [results_cell_tmp h,hp,hv]
 simp only [asAddr,Sem.run_pure,Result.andThen_ok]
 rw [run_loadVar_row w g _ 61 cs (0,0) _ hg Tryz.underlying61 rfl (by rw [hs];exact size_text)]
 rfl
theorem set8 {w:World} {g:Nat} {E:TypeId} (h:Blk w g ztext E) (u0 u1 u2 u3 u4 u5 u6 u7:Value):
 Blk ((((((((w.setCell ⟨g,0,none⟩ u0).setCell ⟨g,1,none⟩ u1).setCell ⟨g,2,none⟩ u2).setCell ⟨g,3,none⟩ u3).setCell ⟨g,4,none⟩ u4).setCell ⟨g,5,none⟩ u5).setCell ⟨g,6,none⟩ u6).setCell ⟨g,7,none⟩ u7) g #[u0,u1,u2,u3,u4,u5,u6,u7] E:=by
 have h0:Blk (w.setCell ⟨g,0,none⟩ u0) g #[u0,.int .i64 0,.slice none 0 0,.slice none 0 0,.int .i64 0,.int .i64 0,.int .i64 0,.int .i64 0] E:=h.set 0 u0
 have h1:Blk ((w.setCell ⟨g,0,none⟩ u0).setCell ⟨g,1,none⟩ u1) g #[u0,u1,.slice none 0 0,.slice none 0 0,.int .i64 0,.int .i64 0,.int .i64 0,.int .i64 0] E:=h0.set 1 u1
 have h2:Blk (((w.setCell ⟨g,0,none⟩ u0).setCell ⟨g,1,none⟩ u1).setCell ⟨g,2,none⟩ u2) g #[u0,u1,u2,.slice none 0 0,.int .i64 0,.int .i64 0,.int .i64 0,.int .i64 0] E:=h1.set 2 u2
 have h3:Blk ((((w.setCell ⟨g,0,none⟩ u0).setCell ⟨g,1,none⟩ u1).setCell ⟨g,2,none⟩ u2).setCell ⟨g,3,none⟩ u3) g #[u0,u1,u2,u3,.int .i64 0,.int .i64 0,.int .i64 0,.int .i64 0] E:=h2.set 3 u3
 have h4:Blk (((((w.setCell ⟨g,0,none⟩ u0).setCell ⟨g,1,none⟩ u1).setCell ⟨g,2,none⟩ u2).setCell ⟨g,3,none⟩ u3).setCell ⟨g,4,none⟩ u4) g #[u0,u1,u2,u3,u4,.int .i64 0,.int .i64 0,.int .i64 0] E:=h3.set 4 u4
 have h5:Blk ((((((w.setCell ⟨g,0,none⟩ u0).setCell ⟨g,1,none⟩ u1).setCell ⟨g,2,none⟩ u2).setCell ⟨g,3,none⟩ u3).setCell ⟨g,4,none⟩ u4).setCell ⟨g,5,none⟩ u5) g #[u0,u1,u2,u3,u4,u5,.int .i64 0,.int .i64 0] E:=h4.set 5 u5
 have h6:Blk (((((((w.setCell ⟨g,0,none⟩ u0).setCell ⟨g,1,none⟩ u1).setCell ⟨g,2,none⟩ u2).setCell ⟨g,3,none⟩ u3).setCell ⟨g,4,none⟩ u4).setCell ⟨g,5,none⟩ u5).setCell ⟨g,6,none⟩ u6) g #[u0,u1,u2,u3,u4,u5,u6,.int .i64 0] E:=h5.set 6 u6
 have h7:Blk ((((((((w.setCell ⟨g,0,none⟩ u0).setCell ⟨g,1,none⟩ u1).setCell ⟨g,2,none⟩ u2).setCell ⟨g,3,none⟩ u3).setCell ⟨g,4,none⟩ u4).setCell ⟨g,5,none⟩ u5).setCell ⟨g,6,none⟩ u6).setCell ⟨g,7,none⟩ u7) g #[u0,u1,u2,u3,u4,u5,u6,u7] E:=h6.set 7 u7
 exact h7
theorem kept8 (w:World) (g:Nat) (u0 u1 u2 u3 u4 u5 u6 u7:Value):
 Kept [g] w ((((((((w.setCell ⟨g,0,none⟩ u0).setCell ⟨g,1,none⟩ u1).setCell ⟨g,2,none⟩ u2).setCell ⟨g,3,none⟩ u3).setCell ⟨g,4,none⟩ u4).setCell ⟨g,5,none⟩ u5).setCell ⟨g,6,none⟩ u6).setCell ⟨g,7,none⟩ u7):=
 have s:=List.mem_singleton.2 (rfl:g=g)
 ((((((((Kept.refl [g] w).setCell (p:=⟨g,0,none⟩) (Or.inl s) u0).setCell (p:=⟨g,1,none⟩) (Or.inl s) u1).setCell (p:=⟨g,2,none⟩) (Or.inl s) u2).setCell (p:=⟨g,3,none⟩) (Or.inl s) u3).setCell (p:=⟨g,4,none⟩) (Or.inl s) u4).setCell (p:=⟨g,5,none⟩) (Or.inl s) u5).setCell (p:=⟨g,6,none⟩) (Or.inl s) u6).setCell (p:=⟨g,7,none⟩) (Or.inl s) u7
structure RulesOut (f:ByteArray) (w w':World) (e:Ending):Prop where
 below:Below w.heap.size w w'
 out:(sgOk f=true∧∃rv sv,TVal w' w.heap.size (sgT f) rv sv∧e=.returned (.tuple #[.agg ((sgT f).cells rv sv),.bool true]))∨(sgOk f=false∧e=.returned (.tuple #[.agg ztext,.bool false]))
structure Two (w0 w:World) (n:Nat) (f:ByteArray) (s:RS) (t:TT) (rv sv:Value):Prop where
 rg:RG w (n+1) f s
 tm:TM w (n+2) #[] #[] 61 (n+3) t rv sv
 below:Below (n+1) w0 w
theorem Two.read {w0 w w':World} {n:Nat} {f:ByteArray} {s s':RS} {t:TT} {rv sv:Value} (h:Two w0 w n f s t rv sv) (r:RG w' (n+1) f s') (k:Kept [n+1] w w'):Two w0 w' n f s' t rv sv:=
 ⟨r,h.tm.other k (by omega) (by omega),h.below.trans (k.below (by have:=h.rg.lt;omega) (by simp))⟩
theorem Two.text {w0 w w':World} {n:Nat} {f:ByteArray} {s:RS} {t t':TT} {rv sv rv' sv':Value} (h:Two w0 w n f s t rv sv) (m:TM w' (n+2) #[] #[] 61 (n+3) t' rv' sv') (k:Fra (n+3) (n+2) w w'):Two w0 w' n f s t' rv' sv':=
 ⟨k.blk h.rg (by omega) (by omega),m,h.below.trans (k.below (by omega) (by omega))⟩
theorem Two.syms {w0 w:World} {n:Nat} {f:ByteArray} {s:RS} {t:TT} {rv sv:Value} (h:Two w0 w n f s t rv sv) (N:Nat):Two w0 (w.setCell ⟨n+2,1,none⟩ (.int .i64 (N:Int))) n f s { t with syms:=N } rv sv:=
 ⟨h.rg.other 1 _ (by omega),⟨text_set (cs:=t.cells rv sv) (o:=0) (j:=1) (cs':=TT.cells { t with syms:=N } rv sv) h.tm.blk rfl (by simp [TT.cells]) _ rfl,h.tm.lt,by have:=h.tm.up;simpa [World.setCell] using this,row_set h.tm.rules (by omega) _ _,row_set h.tm.start (by omega) _ _,h.tm.small,h.tm.whole⟩,h.below.setCell (by simp) _⟩
theorem Two.at2 {w0 w:World} {n:Nat} {f:ByteArray} {s:RS} {t:TT} {rv sv:Value} (h:Two w0 w n f s t rv sv) (j:Nat) (hj:j<8):w.cell? ⟨n+2,j,none⟩=(t.cells rv sv)[j]?:=by
 have:=h.tm.cell (o:=0) rfl j hj
 rwa [Nat.zero_add] at this
theorem rcount1_any (w:World) (b:Nat) (f:ByteArray) (h:RG w b f (2,false)) (hf:f.size≤4000):
 Calls Tryz.prog 57 #[.pointer (some ⟨b,0,none⟩),.int .i64 1,.int .i64 100] w fun e w'=>e=.returned (.int .i64 ((sgR f).1:Int))∧RG w' b f (sgR f).2∧Kept [b] w w':=
 rcount_any w b f (2,false) h (by omega) (by simp) 1 (Or.inl rfl) 100 (by omega)
theorem rcount2_any (w:World) (b:Nat) (f:ByteArray) (s:RS) (h:RG w b f s) (hf:f.size≤4000) (hs:s.1≤99000):
 Calls Tryz.prog 57 #[.pointer (some ⟨b,0,none⟩),.int .i64 2,.int .i64 1000] w fun e w'=>e=.returned (.int .i64 ((countG f 2 1000 s).1:Int))∧RG w' b f (countG f 2 1000 s).2∧Kept [b] w w':=
 rcount_any w b f s h (by omega) hs 2 (Or.inr rfl) 1000 (by omega)
theorem own_shape {w:World} {base:Nat} {e:TypeId} {size:Nat} {v:Value} {n:Nat} {xs:List Value} (h:w.ownsRow base e size v n xs):∃a k c,v=.slice a k c:=by
 rcases h.2 with ⟨h2,_⟩ | ⟨g,c,u,h3,_⟩
 · exact ⟨_,_,_,h2⟩
 · exact ⟨_,_,_,h3⟩
theorem rules_end {f:ByteArray} {w w2 w3:World} {s:RS} {t:TT} {rv sv:Value} (h:Two (w.alloc (.cells ztext 61)) w2 w.heap.size f s t rv sv):
 Blk w2 w.heap.size ztext 61∧(∀w3,Kept [w.heap.size] w2 w3→Below w.heap.size w w3∧TVal w3 w.heap.size t rv sv):=by
 refine ⟨(h.below.block _ (by omega)).trans (Blk.new w _ _),fun w3 k=>⟨?_,?_⟩⟩
 · exact (((Below.refl w.heap.size w).alloc (Nat.le_refl _) _).trans (h.below.mono (by omega))).trans (k.below (by have:=h.below.size;simp at this;omega) (by simp))
 · exact (h.tm.val.kept k (fun g hg=>by simp at hg;omega)).mono (by omega)
theorem readRules_any (f:ByteArray) (hf:f.size≤4000) (w:World):
 Calls Tryz.prog 30 #[.string f] w fun e w'=>RulesOut f w w' e:=by
 obtain ⟨n,hn⟩:∃n,n=w.heap.size:=⟨_,rfl⟩
 have h0:Two (w.alloc (.cells ztext 61)) (((w.alloc (.cells ztext 61)).alloc (.cells #[.string f,.int .i64 2,.bool false] 147)).alloc (.cells #[.int .i64 71,.int .i64 0,.slice none 0 0,.slice none 0 0,.int .i64 0,.int .i64 0,.int .i64 0,.int .i64 0] 61)) w.heap.size f (2,false) { kind:=71 } (.slice none 0 0) (.slice none 0 0):=by
  refine ⟨?_,⟨?_,by omega,by simp,World.ownsRow_nil _ _ _ 6,World.ownsRow_nil _ _ _ 1,(fun x hx=>nomatch hx),⟨by simp,by simp⟩⟩,?_⟩
  · have:=(Blk.new (w.alloc (.cells ztext 61)) #[.string f,.int .i64 2,.bool false] 147).alloc (.cells #[.int .i64 71,.int .i64 0,.slice none 0 0,.slice none 0 0,.int .i64 0,.int .i64 0,.int .i64 0,.int .i64 0] 61)
    unfold RG;simpa using this
  · have:=Blk.new ((w.alloc (.cells ztext 61)).alloc (.cells #[.string f,.int .i64 2,.bool false] 147)) #[.int .i64 71,.int .i64 0,.slice none 0 0,.slice none 0 0,.int .i64 0,.int .i64 0,.int .i64 0,.int .i64 0] 61
    simpa [TT.cells] using this
  · exact ((Below.refl (w.heap.size+1) _).alloc (by simp) _).alloc (by simp) _
 have hRb:=sgR_bd f
 have h0H:Hid (Two _ _ _ _ _ _ _ _):=h0
 have hc1:Hid (Calls _ _ _ _ _):=rcount1_any _ _ f h0.rg hf
 unfold ztext at hc1
 clear h0 hn
 go_enter Tryz.func30,Tryz.ntmps30
 go_wp2_with fail
 refine hc1.out.mono ?_
 rintro e w1 ⟨rfl,r1,k1⟩
 have h1:Hid (Two _ _ _ _ _ _ _ _):=h0H.out.read r1 k1
 clear hc1 h0H r1 k1
 go_wp2_with fail
 go_loopw [7] (fun iv wr=>∃q:Nat,iv=.int .i64 (q:Int)∧q≤(sgR f).1∧∃rv,Two (w.alloc (.cells ztext 61)) wr w.heap.size f (ruG f (sgR f).2 q).2 { kind:=71,rules:=(ruG f (sgR f).2 q).1 } rv (.slice none 0 0)) (fun iv _=>(((sgR f).1:Int)-intOf iv).toNat)
 case atStart=>exact ⟨0,rfl,Nat.zero_le _,_,h1.out⟩
 case round=>
  obtain ⟨q,rfl,hq,rv,h2⟩:=hrel
  clear h1
  have hqat:=ruG_at f (sgR f).2 q
  have hqlen:=ruG_len f (sgR f).2 q
  have e2:wr.cell? ⟨w.heap.size+1,2,none⟩=some (.bool (ruG f (sgR f).2 q).2.2):=h2.rg.cell 2
  obtain ⟨bad,hbad⟩:∃bad,bad=(ruG f (sgR f).2 q).2.2:=⟨_,rfl⟩
  rw [←hbad] at e2
  have hbadH:Hid (_=_):=hbad
  clear hbad
  by_cases hlt:(q:Int)<((sgR f).1:Int)
  · cases bad with
    | false=>
      have hs1:Hid (Calls _ _ _ _ _):=rsymbol_any wr (w.heap.size+1) f _ h2.rg (by omega) (by omega) q (by omega)
      have h2H:Hid (Two _ _ _ _ _ _ _ _):=h2
      clear h2
      go_wp2_with fail
      refine hs1.out.mono ?_
      rintro e w3 ⟨rfl,r3,k3⟩
      have h3:=h2H.out.read r3 k3
      have hA1:=(countG_ge f 2 (255+q) (ruG f (sgR f).2 q).2).2
      have hL1:=countG_le f 2 (255+q) (ruG f (sgR f).2 q).2
      have hs2:Hid (Calls _ _ _ _ _):=rsymbol_any w3 (w.heap.size+1) f _ h3.rg (by omega) (by omega) q (by omega)
      have h3H:Hid (Two _ _ _ _ _ _ _ _):=h3
      clear hs1 r3 k3 h3 h2H e2
      go_wp2_with fail
      refine hs2.out.mono ?_
      rintro e w4 ⟨rfl,r4,k4⟩
      have h4:=h3H.out.read r4 k4
      have hL2:=countG_le f 2 (255+q) (countG f 2 (255+q) (ruG f (sgR f).2 q).2).2
      have hs3:Hid (Calls _ _ _ _ _):=addRule_any h4.tm (o:=0) rfl (countG f 2 (255+q) (ruG f (sgR f).2 q).2).1 (countG f 2 (255+q) (countG f 2 (255+q) (ruG f (sgR f).2 q).2).2).1 (by omega) (by omega) (by simp only [];omega)
      have h4H:Hid (Two _ _ _ _ _ _ _ _):=h4
      clear hs2 r4 k4 h4 h3H
      go_wp2_with fail
      refine hs3.out.mono ?_
      rintro e w5 ⟨rfl,f5,rv5,t5⟩
      have h5:Hid (Two _ _ _ _ _ _ _ _):=h4H.out.text t5 f5
      clear hs3 h4H f5 t5
      go_wp2
      refine ⟨⟨q+1,by go_num,by omega,_,h5.out⟩,?_⟩
      simp only [intOf];omega
    | true=>
      have hA:Hid (AfterRules _ _ _):=AfterRules.of hq (Or.inl hbadH.out.symm)
      clear hbadH hqat hqlen
      generalize (ruG f (sgR f).2 q).1=rs at *
      generalize (ruG f (sgR f).2 q).2=S at *
      have hc2:Hid (Calls _ _ _ _ _):=rcount2_any wr (w.heap.size+1) f S h2.rg hf (by have:=hA.out.at_;omega)
      have h2H:Hid (Two _ _ _ _ _ _ _ _):=h2
      clear h2
      go_wp2_with fail
      refine hc2.out.mono ?_
      rintro e w3 ⟨rfl,r3,k3⟩
      have h3:=h2H.out.read r3 k3
      have hC:=hA.out.count
      generalize countG f 2 1000 S=NS at *
      obtain ⟨N,s3⟩:=NS
      simp only [] at h3 hC r3
      have hN:=hC.up
      have d1:w3.cell? ⟨w.heap.size+2,1,none⟩=some (.int .i64 0):=h3.at2 1 (by omega)
      have d2:w3.frozen? ⟨w.heap.size+2,1,none⟩=false:=h3.tm.blk.frozen 1
      have h4:Hid (Two _ _ _ _ _ _ _ _):=h3.syms N
      have hC:Hid (AmongSyms _ _ _ _ _ _ _):=hC
      clear hc2 h2H r3 k3 h3 hA
      go_wp2_with fail
      go_loopw [10] (fun jv wr=>∃(j:Nat) (l:List Nat) (p:PT) (s:RS) (sv:Value),jv=.int .i64 (j:Int)∧j≤N∧AmongSyms f rs N j l p s∧Two (w.alloc (.cells ztext 61)) wr w.heap.size f s { kind:=71,syms:=N,rules:=rs,start:=l,whole:=p } rv sv) (fun jv _=>((N:Int)-intOf jv).toNat)
      case atStart=>exact ⟨0,[],{},s3,_,rfl,Nat.zero_le _,hC.out,h4.out⟩
      case round=>
       obtain ⟨j,l,p,s,sv,rfl,hj,hC,h5⟩:=hrel
       clear h4 d1 d2
       have hRb1:=(sgR_bd f).1
       have hsat:=hC.at_
       have hrl:=hC.len
       have hll:=hC.llen
       have e1:wr.cell? ⟨w.heap.size+1,1,none⟩=some (.int .i64 (s.1:Int)):=h5.rg.cell 1
       have e2:wr.cell? ⟨w.heap.size+1,2,none⟩=some (.bool s.2):=h5.rg.cell 2
       have e3:wr.cell? ⟨w.heap.size+2,1,none⟩=some (.int .i64 (N:Int)):=h5.at2 1 (by omega)
       have hCH:Hid (AmongSyms _ _ _ _ _ _ _):=hC
       have h5H:Hid (Two _ _ _ _ _ _ _ _):=h5
       obtain ⟨p0,bad⟩:=s
       simp only [] at e1 e2 hsat
       clear hC h5
       by_cases hjl:(j:Int)<(N:Int)
       · cases bad with
         | false=>
           have hs1:Hid (Calls _ _ _ _ _):=rsymbol_any wr (w.heap.size+1) f _ h5H.out.rg (by omega) (by simp only [];omega) (sgR f).1 (by omega)
           go_wp2_with fail
           refine hs1.out.mono ?_
           rintro e w6 ⟨rfl,r6,k6⟩
           have h6:=h5H.out.read r6 k6
           have hC6:Hid (AmongSyms _ _ _ _ _ _ _):=hCH.out.next (by omega) rfl
           have hcl:(countG f 2 (255+(sgR f).1) (p0,false)).1≤1000:=Nat.le_trans (countG_le _ _ _ _) (by omega)
           have hst:Hid (Calls _ _ _ _ _):=addToStart_any h6.tm (o:=0) rfl (countG f 2 (255+(sgR f).1) (p0,false)).1 (by omega) (by simp only [];omega) (by simp only [];omega)
           have h6H:Hid (Two _ _ _ _ _ _ _ _):=h6
           generalize countG f 2 (255+(sgR f).1) (p0,false)=C at *
           clear hs1 r6 k6 h6 e1 e2 e3 hCH h5H
           go_wp2_with fail
           refine hst.out.mono ?_
           rintro e w7 ⟨rfl,f7,sv7,t7⟩
           have h7:Hid (Two _ _ _ _ _ _ _ _):=h6H.out.text t7 f7
           clear hst h6H f7 t7
           go_wp2
           refine ⟨⟨j+1,_,_,_,_,by go_num,by omega,hC6.out,h7.out⟩,?_⟩
           simp only [intOf];omega
         | true=>
           have hno:Hid (sgOk f=false):=hCH.out.bad rfl
           obtain ⟨hz,hend⟩:=rules_end (w3:=wr) h5H.out
           have hendH:Hid (∀w3,_→_):=hend
           have hS:Hid (∀u0 u1 u2 u3 u4 u5 u6 u7,Blk _ _ _ _):=fun u0 u1 u2 u3 u4 u5 u6 u7=>set8 hz u0 u1 u2 u3 u4 u5 u6 u7
           unfold ztext at hz
           have z0:wr.cell? ⟨w.heap.size,0,none⟩=some (.int .i64 0):=hz.cell 0
           have y0:wr.frozen? ⟨w.heap.size,0,none⟩=false:=hz.frozen 0
           have z1:wr.cell? ⟨w.heap.size,1,none⟩=some (.int .i64 0):=hz.cell 1
           have y1:wr.frozen? ⟨w.heap.size,1,none⟩=false:=hz.frozen 1
           have z2:wr.cell? ⟨w.heap.size,2,none⟩=some (.slice none 0 0):=hz.cell 2
           have y2:wr.frozen? ⟨w.heap.size,2,none⟩=false:=hz.frozen 2
           have z3:wr.cell? ⟨w.heap.size,3,none⟩=some (.slice none 0 0):=hz.cell 3
           have y3:wr.frozen? ⟨w.heap.size,3,none⟩=false:=hz.frozen 3
           have z4:wr.cell? ⟨w.heap.size,4,none⟩=some (.int .i64 0):=hz.cell 4
           have y4:wr.frozen? ⟨w.heap.size,4,none⟩=false:=hz.frozen 4
           have z5:wr.cell? ⟨w.heap.size,5,none⟩=some (.int .i64 0):=hz.cell 5
           have y5:wr.frozen? ⟨w.heap.size,5,none⟩=false:=hz.frozen 5
           have z6:wr.cell? ⟨w.heap.size,6,none⟩=some (.int .i64 0):=hz.cell 6
           have y6:wr.frozen? ⟨w.heap.size,6,none⟩=false:=hz.frozen 6
           have z7:wr.cell? ⟨w.heap.size,7,none⟩=some (.int .i64 0):=hz.cell 7
           have y7:wr.frozen? ⟨w.heap.size,7,none⟩=false:=hz.frozen 7
           clear hz hend
           clear hCH h5H
           go_wp2
           exact bodyPost_ret (v:=.tuple #[.agg ztext,.bool false]) (results_text Tryz.results30 _ _ w.heap.size ztext rfl _ rfl rfl (hS.out _ _ _ _ _ _ _ _)) rfl ⟨(hendH.out _ (kept8 _ _ _ _ _ _ _ _ _ _)).1,Or.inr ⟨hno.out,rfl⟩⟩
       · have hjn:j=N:=by omega
         subst hjn
         cases bad with
         | true=>
           have hno:Hid (sgOk f=false):=hCH.out.bad rfl
           obtain ⟨hz,hend⟩:=rules_end (w3:=wr) h5H.out
           have hendH:Hid (∀w3,_→_):=hend
           have hS:Hid (∀u0 u1 u2 u3 u4 u5 u6 u7,Blk _ _ _ _):=fun u0 u1 u2 u3 u4 u5 u6 u7=>set8 hz u0 u1 u2 u3 u4 u5 u6 u7
           unfold ztext at hz
           have z0:wr.cell? ⟨w.heap.size,0,none⟩=some (.int .i64 0):=hz.cell 0
           have y0:wr.frozen? ⟨w.heap.size,0,none⟩=false:=hz.frozen 0
           have z1:wr.cell? ⟨w.heap.size,1,none⟩=some (.int .i64 0):=hz.cell 1
           have y1:wr.frozen? ⟨w.heap.size,1,none⟩=false:=hz.frozen 1
           have z2:wr.cell? ⟨w.heap.size,2,none⟩=some (.slice none 0 0):=hz.cell 2
           have y2:wr.frozen? ⟨w.heap.size,2,none⟩=false:=hz.frozen 2
           have z3:wr.cell? ⟨w.heap.size,3,none⟩=some (.slice none 0 0):=hz.cell 3
           have y3:wr.frozen? ⟨w.heap.size,3,none⟩=false:=hz.frozen 3
           have z4:wr.cell? ⟨w.heap.size,4,none⟩=some (.int .i64 0):=hz.cell 4
           have y4:wr.frozen? ⟨w.heap.size,4,none⟩=false:=hz.frozen 4
           have z5:wr.cell? ⟨w.heap.size,5,none⟩=some (.int .i64 0):=hz.cell 5
           have y5:wr.frozen? ⟨w.heap.size,5,none⟩=false:=hz.frozen 5
           have z6:wr.cell? ⟨w.heap.size,6,none⟩=some (.int .i64 0):=hz.cell 6
           have y6:wr.frozen? ⟨w.heap.size,6,none⟩=false:=hz.frozen 6
           have z7:wr.cell? ⟨w.heap.size,7,none⟩=some (.int .i64 0):=hz.cell 7
           have y7:wr.frozen? ⟨w.heap.size,7,none⟩=false:=hz.frozen 7
           clear hz hend
           clear hCH h5H
           go_wp2
           exact bodyPost_ret (v:=.tuple #[.agg ztext,.bool false]) (results_text Tryz.results30 _ _ w.heap.size ztext rfl _ rfl rfl (hS.out _ _ _ _ _ _ _ _)) rfl ⟨(hendH.out _ (kept8 _ _ _ _ _ _ _ _ _ _)).1,Or.inr ⟨hno.out,rfl⟩⟩
         | false=>
           obtain ⟨hok,hT⟩:=hCH.out.fin rfl
           simp only [] at hok
           have hokH:Hid (_=_):=hok
           have hTH:Hid (_=_):=hT
           clear hok hT
           by_cases hat:(p0:Int)<(f.size:Int)
           · have hno:Hid (sgOk f=false):=by rw [hokH.out];exact decide_eq_false (by omega)
             obtain ⟨hz,hend⟩:=rules_end (w3:=wr) h5H.out
             have hendH:Hid (∀w3,_→_):=hend
             have hS:Hid (∀u0 u1 u2 u3 u4 u5 u6 u7,Blk _ _ _ _):=fun u0 u1 u2 u3 u4 u5 u6 u7=>set8 hz u0 u1 u2 u3 u4 u5 u6 u7
             unfold ztext at hz
             have z0:wr.cell? ⟨w.heap.size,0,none⟩=some (.int .i64 0):=hz.cell 0
             have y0:wr.frozen? ⟨w.heap.size,0,none⟩=false:=hz.frozen 0
             have z1:wr.cell? ⟨w.heap.size,1,none⟩=some (.int .i64 0):=hz.cell 1
             have y1:wr.frozen? ⟨w.heap.size,1,none⟩=false:=hz.frozen 1
             have z2:wr.cell? ⟨w.heap.size,2,none⟩=some (.slice none 0 0):=hz.cell 2
             have y2:wr.frozen? ⟨w.heap.size,2,none⟩=false:=hz.frozen 2
             have z3:wr.cell? ⟨w.heap.size,3,none⟩=some (.slice none 0 0):=hz.cell 3
             have y3:wr.frozen? ⟨w.heap.size,3,none⟩=false:=hz.frozen 3
             have z4:wr.cell? ⟨w.heap.size,4,none⟩=some (.int .i64 0):=hz.cell 4
             have y4:wr.frozen? ⟨w.heap.size,4,none⟩=false:=hz.frozen 4
             have z5:wr.cell? ⟨w.heap.size,5,none⟩=some (.int .i64 0):=hz.cell 5
             have y5:wr.frozen? ⟨w.heap.size,5,none⟩=false:=hz.frozen 5
             have z6:wr.cell? ⟨w.heap.size,6,none⟩=some (.int .i64 0):=hz.cell 6
             have y6:wr.frozen? ⟨w.heap.size,6,none⟩=false:=hz.frozen 6
             have z7:wr.cell? ⟨w.heap.size,7,none⟩=some (.int .i64 0):=hz.cell 7
             have y7:wr.frozen? ⟨w.heap.size,7,none⟩=false:=hz.frozen 7
             clear hz hend
             clear hCH h5H
             go_wp2
             exact bodyPost_ret (v:=.tuple #[.agg ztext,.bool false]) (results_text Tryz.results30 _ _ w.heap.size ztext rfl _ rfl rfl (hS.out _ _ _ _ _ _ _ _)) rfl ⟨(hendH.out _ (kept8 _ _ _ _ _ _ _ _ _ _)).1,Or.inr ⟨hno.out,rfl⟩⟩
           · have hyes:Hid (sgOk f=true):=by rw [hokH.out];exact decide_eq_true (by omega)
             obtain ⟨hz,hend⟩:=rules_end (w3:=wr) h5H.out
             have hendH:Hid (∀w3,_→_):=hend
             have hS:Hid (∀u0 u1 u2 u3 u4 u5 u6 u7,Blk _ _ _ _):=fun u0 u1 u2 u3 u4 u5 u6 u7=>set8 hz u0 u1 u2 u3 u4 u5 u6 u7
             unfold ztext at hz
             have z0:wr.cell? ⟨w.heap.size,0,none⟩=some (.int .i64 0):=hz.cell 0
             have y0:wr.frozen? ⟨w.heap.size,0,none⟩=false:=hz.frozen 0
             have z1:wr.cell? ⟨w.heap.size,1,none⟩=some (.int .i64 0):=hz.cell 1
             have y1:wr.frozen? ⟨w.heap.size,1,none⟩=false:=hz.frozen 1
             have z2:wr.cell? ⟨w.heap.size,2,none⟩=some (.slice none 0 0):=hz.cell 2
             have y2:wr.frozen? ⟨w.heap.size,2,none⟩=false:=hz.frozen 2
             have z3:wr.cell? ⟨w.heap.size,3,none⟩=some (.slice none 0 0):=hz.cell 3
             have y3:wr.frozen? ⟨w.heap.size,3,none⟩=false:=hz.frozen 3
             have z4:wr.cell? ⟨w.heap.size,4,none⟩=some (.int .i64 0):=hz.cell 4
             have y4:wr.frozen? ⟨w.heap.size,4,none⟩=false:=hz.frozen 4
             have z5:wr.cell? ⟨w.heap.size,5,none⟩=some (.int .i64 0):=hz.cell 5
             have y5:wr.frozen? ⟨w.heap.size,5,none⟩=false:=hz.frozen 5
             have z6:wr.cell? ⟨w.heap.size,6,none⟩=some (.int .i64 0):=hz.cell 6
             have y6:wr.frozen? ⟨w.heap.size,6,none⟩=false:=hz.frozen 6
             have z7:wr.cell? ⟨w.heap.size,7,none⟩=some (.int .i64 0):=hz.cell 7
             have y7:wr.frozen? ⟨w.heap.size,7,none⟩=false:=hz.frozen 7
             clear hz hend
             have x0:wr.cell? ⟨w.heap.size+2,0,none⟩=some (.int .i64 71):=h5H.out.at2 0 (by omega)
             have x2:wr.cell? ⟨w.heap.size+2,2,none⟩=some (rv):=h5H.out.at2 2 (by omega)
             have x3:wr.cell? ⟨w.heap.size+2,3,none⟩=some (sv):=h5H.out.at2 3 (by omega)
             have x4:wr.cell? ⟨w.heap.size+2,4,none⟩=some (.int .i64 p.len):=h5H.out.at2 4 (by omega)
             have x5:wr.cell? ⟨w.heap.size+2,5,none⟩=some (.int .i64 p.nl):=h5H.out.at2 5 (by omega)
             have x6:wr.cell? ⟨w.heap.size+2,6,none⟩=some (.int .i64 p.first):=h5H.out.at2 6 (by omega)
             have x7:wr.cell? ⟨w.heap.size+2,7,none⟩=some (.int .i64 p.last):=h5H.out.at2 7 (by omega)
             have hbn:w.heap.size+2<wr.heap.size:=h5H.out.tm.blk.lt
             obtain ⟨ra,rn,rc,rfl⟩:=own_shape h5H.out.tm.rules
             obtain ⟨sa,sn,sc,rfl⟩:=own_shape h5H.out.tm.start
             have hfin:Hid (∀w3,Kept [w.heap.size] wr w3→RulesOut f w w3 (.returned (.tuple #[.agg #[.int .i64 71,.int .i64 (j:Int),.slice ra rn rc,.slice sa sn sc,.int .i64 p.len,.int .i64 p.nl,.int .i64 p.first,.int .i64 p.last],.bool true]))):=fun w3 k=>by
              obtain ⟨b3,v3⟩:=hendH.out w3 k
              rw [hTH.out] at v3
              refine ⟨b3,Or.inl ⟨hyes.out,_,_,v3,?_⟩⟩
              rw [←hTH.out];rfl
             clear hCH h5H hendH hTH hokH
             go_wp2
             refine bodyPost_ret (v:=.tuple #[.agg #[.int .i64 71,.int .i64 (j:Int),.slice ra rn rc,.slice sa sn sc,.int .i64 p.len,.int .i64 p.nl,.int .i64 p.first,.int .i64 p.last],.bool true]) (results_text Tryz.results30 _ _ w.heap.size _ rfl _ rfl rfl (hS.out _ _ _ _ _ _ _ _)) rfl ?_
             exact hfin.out _ (kept8 _ _ _ _ _ _ _ _ _ _)
  · have hqe:q=(sgR f).1:=by omega
    have hA:Hid (AfterRules _ _ _):=AfterRules.of hq (Or.inr hqe)
    have hnl:¬(q:Int)<((sgR f).1:Int):=hlt
    clear hbadH hqat hqlen hqe hlt
    generalize (ruG f (sgR f).2 q).1=rs at *
    generalize (ruG f (sgR f).2 q).2=S at *
    have hc2:Hid (Calls _ _ _ _ _):=rcount2_any wr (w.heap.size+1) f S h2.rg hf (by have:=hA.out.at_;omega)
    have h2H:Hid (Two _ _ _ _ _ _ _ _):=h2
    clear h2
    go_wp2_with fail
    refine hc2.out.mono ?_
    rintro e w3 ⟨rfl,r3,k3⟩
    have h3:=h2H.out.read r3 k3
    have hC:=hA.out.count
    generalize countG f 2 1000 S=NS at *
    obtain ⟨N,s3⟩:=NS
    simp only [] at h3 hC r3
    have hN:=hC.up
    have d1:w3.cell? ⟨w.heap.size+2,1,none⟩=some (.int .i64 0):=h3.at2 1 (by omega)
    have d2:w3.frozen? ⟨w.heap.size+2,1,none⟩=false:=h3.tm.blk.frozen 1
    have h4:Hid (Two _ _ _ _ _ _ _ _):=h3.syms N
    have hC:Hid (AmongSyms _ _ _ _ _ _ _):=hC
    clear hc2 h2H r3 k3 h3 hA
    go_wp2_with fail
    go_loopw [10] (fun jv wr=>∃(j:Nat) (l:List Nat) (p:PT) (s:RS) (sv:Value),jv=.int .i64 (j:Int)∧j≤N∧AmongSyms f rs N j l p s∧Two (w.alloc (.cells ztext 61)) wr w.heap.size f s { kind:=71,syms:=N,rules:=rs,start:=l,whole:=p } rv sv) (fun jv _=>((N:Int)-intOf jv).toNat)
    case atStart=>exact ⟨0,[],{},s3,_,rfl,Nat.zero_le _,hC.out,h4.out⟩
    case round=>
     obtain ⟨j,l,p,s,sv,rfl,hj,hC,h5⟩:=hrel
     clear h4 d1 d2
     have hRb1:=(sgR_bd f).1
     have hsat:=hC.at_
     have hrl:=hC.len
     have hll:=hC.llen
     have e1:wr.cell? ⟨w.heap.size+1,1,none⟩=some (.int .i64 (s.1:Int)):=h5.rg.cell 1
     have e2:wr.cell? ⟨w.heap.size+1,2,none⟩=some (.bool s.2):=h5.rg.cell 2
     have e3:wr.cell? ⟨w.heap.size+2,1,none⟩=some (.int .i64 (N:Int)):=h5.at2 1 (by omega)
     have hCH:Hid (AmongSyms _ _ _ _ _ _ _):=hC
     have h5H:Hid (Two _ _ _ _ _ _ _ _):=h5
     obtain ⟨p0,bad⟩:=s
     simp only [] at e1 e2 hsat
     clear hC h5
     by_cases hjl:(j:Int)<(N:Int)
     · cases bad with
       | false=>
         have hs1:Hid (Calls _ _ _ _ _):=rsymbol_any wr (w.heap.size+1) f _ h5H.out.rg (by omega) (by simp only [];omega) (sgR f).1 (by omega)
         go_wp2_with fail
         refine hs1.out.mono ?_
         rintro e w6 ⟨rfl,r6,k6⟩
         have h6:=h5H.out.read r6 k6
         have hC6:Hid (AmongSyms _ _ _ _ _ _ _):=hCH.out.next (by omega) rfl
         have hcl:(countG f 2 (255+(sgR f).1) (p0,false)).1≤1000:=Nat.le_trans (countG_le _ _ _ _) (by omega)
         have hst:Hid (Calls _ _ _ _ _):=addToStart_any h6.tm (o:=0) rfl (countG f 2 (255+(sgR f).1) (p0,false)).1 (by omega) (by simp only [];omega) (by simp only [];omega)
         have h6H:Hid (Two _ _ _ _ _ _ _ _):=h6
         generalize countG f 2 (255+(sgR f).1) (p0,false)=C at *
         clear hs1 r6 k6 h6 e1 e2 e3 hCH h5H
         go_wp2_with fail
         refine hst.out.mono ?_
         rintro e w7 ⟨rfl,f7,sv7,t7⟩
         have h7:Hid (Two _ _ _ _ _ _ _ _):=h6H.out.text t7 f7
         clear hst h6H f7 t7
         go_wp2
         refine ⟨⟨j+1,_,_,_,_,by go_num,by omega,hC6.out,h7.out⟩,?_⟩
         simp only [intOf];omega
       | true=>
         have hno:Hid (sgOk f=false):=hCH.out.bad rfl
         obtain ⟨hz,hend⟩:=rules_end (w3:=wr) h5H.out
         have hendH:Hid (∀w3,_→_):=hend
         have hS:Hid (∀u0 u1 u2 u3 u4 u5 u6 u7,Blk _ _ _ _):=fun u0 u1 u2 u3 u4 u5 u6 u7=>set8 hz u0 u1 u2 u3 u4 u5 u6 u7
         unfold ztext at hz
         have z0:wr.cell? ⟨w.heap.size,0,none⟩=some (.int .i64 0):=hz.cell 0
         have y0:wr.frozen? ⟨w.heap.size,0,none⟩=false:=hz.frozen 0
         have z1:wr.cell? ⟨w.heap.size,1,none⟩=some (.int .i64 0):=hz.cell 1
         have y1:wr.frozen? ⟨w.heap.size,1,none⟩=false:=hz.frozen 1
         have z2:wr.cell? ⟨w.heap.size,2,none⟩=some (.slice none 0 0):=hz.cell 2
         have y2:wr.frozen? ⟨w.heap.size,2,none⟩=false:=hz.frozen 2
         have z3:wr.cell? ⟨w.heap.size,3,none⟩=some (.slice none 0 0):=hz.cell 3
         have y3:wr.frozen? ⟨w.heap.size,3,none⟩=false:=hz.frozen 3
         have z4:wr.cell? ⟨w.heap.size,4,none⟩=some (.int .i64 0):=hz.cell 4
         have y4:wr.frozen? ⟨w.heap.size,4,none⟩=false:=hz.frozen 4
         have z5:wr.cell? ⟨w.heap.size,5,none⟩=some (.int .i64 0):=hz.cell 5
         have y5:wr.frozen? ⟨w.heap.size,5,none⟩=false:=hz.frozen 5
         have z6:wr.cell? ⟨w.heap.size,6,none⟩=some (.int .i64 0):=hz.cell 6
         have y6:wr.frozen? ⟨w.heap.size,6,none⟩=false:=hz.frozen 6
         have z7:wr.cell? ⟨w.heap.size,7,none⟩=some (.int .i64 0):=hz.cell 7
         have y7:wr.frozen? ⟨w.heap.size,7,none⟩=false:=hz.frozen 7
         clear hz hend
         clear hCH h5H
         go_wp2
         exact bodyPost_ret (v:=.tuple #[.agg ztext,.bool false]) (results_text Tryz.results30 _ _ w.heap.size ztext rfl _ rfl rfl (hS.out _ _ _ _ _ _ _ _)) rfl ⟨(hendH.out _ (kept8 _ _ _ _ _ _ _ _ _ _)).1,Or.inr ⟨hno.out,rfl⟩⟩
     · have hjn:j=N:=by omega
       subst hjn
       cases bad with
       | true=>
         have hno:Hid (sgOk f=false):=hCH.out.bad rfl
         obtain ⟨hz,hend⟩:=rules_end (w3:=wr) h5H.out
         have hendH:Hid (∀w3,_→_):=hend
         have hS:Hid (∀u0 u1 u2 u3 u4 u5 u6 u7,Blk _ _ _ _):=fun u0 u1 u2 u3 u4 u5 u6 u7=>set8 hz u0 u1 u2 u3 u4 u5 u6 u7
         unfold ztext at hz
         have z0:wr.cell? ⟨w.heap.size,0,none⟩=some (.int .i64 0):=hz.cell 0
         have y0:wr.frozen? ⟨w.heap.size,0,none⟩=false:=hz.frozen 0
         have z1:wr.cell? ⟨w.heap.size,1,none⟩=some (.int .i64 0):=hz.cell 1
         have y1:wr.frozen? ⟨w.heap.size,1,none⟩=false:=hz.frozen 1
         have z2:wr.cell? ⟨w.heap.size,2,none⟩=some (.slice none 0 0):=hz.cell 2
         have y2:wr.frozen? ⟨w.heap.size,2,none⟩=false:=hz.frozen 2
         have z3:wr.cell? ⟨w.heap.size,3,none⟩=some (.slice none 0 0):=hz.cell 3
         have y3:wr.frozen? ⟨w.heap.size,3,none⟩=false:=hz.frozen 3
         have z4:wr.cell? ⟨w.heap.size,4,none⟩=some (.int .i64 0):=hz.cell 4
         have y4:wr.frozen? ⟨w.heap.size,4,none⟩=false:=hz.frozen 4
         have z5:wr.cell? ⟨w.heap.size,5,none⟩=some (.int .i64 0):=hz.cell 5
         have y5:wr.frozen? ⟨w.heap.size,5,none⟩=false:=hz.frozen 5
         have z6:wr.cell? ⟨w.heap.size,6,none⟩=some (.int .i64 0):=hz.cell 6
         have y6:wr.frozen? ⟨w.heap.size,6,none⟩=false:=hz.frozen 6
         have z7:wr.cell? ⟨w.heap.size,7,none⟩=some (.int .i64 0):=hz.cell 7
         have y7:wr.frozen? ⟨w.heap.size,7,none⟩=false:=hz.frozen 7
         clear hz hend
         clear hCH h5H
         go_wp2
         exact bodyPost_ret (v:=.tuple #[.agg ztext,.bool false]) (results_text Tryz.results30 _ _ w.heap.size ztext rfl _ rfl rfl (hS.out _ _ _ _ _ _ _ _)) rfl ⟨(hendH.out _ (kept8 _ _ _ _ _ _ _ _ _ _)).1,Or.inr ⟨hno.out,rfl⟩⟩
       | false=>
         obtain ⟨hok,hT⟩:=hCH.out.fin rfl
         simp only [] at hok
         have hokH:Hid (_=_):=hok
         have hTH:Hid (_=_):=hT
         clear hok hT
         by_cases hat:(p0:Int)<(f.size:Int)
         · have hno:Hid (sgOk f=false):=by rw [hokH.out];exact decide_eq_false (by omega)
           obtain ⟨hz,hend⟩:=rules_end (w3:=wr) h5H.out
           have hendH:Hid (∀w3,_→_):=hend
           have hS:Hid (∀u0 u1 u2 u3 u4 u5 u6 u7,Blk _ _ _ _):=fun u0 u1 u2 u3 u4 u5 u6 u7=>set8 hz u0 u1 u2 u3 u4 u5 u6 u7
           unfold ztext at hz
           have z0:wr.cell? ⟨w.heap.size,0,none⟩=some (.int .i64 0):=hz.cell 0
           have y0:wr.frozen? ⟨w.heap.size,0,none⟩=false:=hz.frozen 0
           have z1:wr.cell? ⟨w.heap.size,1,none⟩=some (.int .i64 0):=hz.cell 1
           have y1:wr.frozen? ⟨w.heap.size,1,none⟩=false:=hz.frozen 1
           have z2:wr.cell? ⟨w.heap.size,2,none⟩=some (.slice none 0 0):=hz.cell 2
           have y2:wr.frozen? ⟨w.heap.size,2,none⟩=false:=hz.frozen 2
           have z3:wr.cell? ⟨w.heap.size,3,none⟩=some (.slice none 0 0):=hz.cell 3
           have y3:wr.frozen? ⟨w.heap.size,3,none⟩=false:=hz.frozen 3
           have z4:wr.cell? ⟨w.heap.size,4,none⟩=some (.int .i64 0):=hz.cell 4
           have y4:wr.frozen? ⟨w.heap.size,4,none⟩=false:=hz.frozen 4
           have z5:wr.cell? ⟨w.heap.size,5,none⟩=some (.int .i64 0):=hz.cell 5
           have y5:wr.frozen? ⟨w.heap.size,5,none⟩=false:=hz.frozen 5
           have z6:wr.cell? ⟨w.heap.size,6,none⟩=some (.int .i64 0):=hz.cell 6
           have y6:wr.frozen? ⟨w.heap.size,6,none⟩=false:=hz.frozen 6
           have z7:wr.cell? ⟨w.heap.size,7,none⟩=some (.int .i64 0):=hz.cell 7
           have y7:wr.frozen? ⟨w.heap.size,7,none⟩=false:=hz.frozen 7
           clear hz hend
           clear hCH h5H
           go_wp2
           exact bodyPost_ret (v:=.tuple #[.agg ztext,.bool false]) (results_text Tryz.results30 _ _ w.heap.size ztext rfl _ rfl rfl (hS.out _ _ _ _ _ _ _ _)) rfl ⟨(hendH.out _ (kept8 _ _ _ _ _ _ _ _ _ _)).1,Or.inr ⟨hno.out,rfl⟩⟩
         · have hyes:Hid (sgOk f=true):=by rw [hokH.out];exact decide_eq_true (by omega)
           obtain ⟨hz,hend⟩:=rules_end (w3:=wr) h5H.out
           have hendH:Hid (∀w3,_→_):=hend
           have hS:Hid (∀u0 u1 u2 u3 u4 u5 u6 u7,Blk _ _ _ _):=fun u0 u1 u2 u3 u4 u5 u6 u7=>set8 hz u0 u1 u2 u3 u4 u5 u6 u7
           unfold ztext at hz
           have z0:wr.cell? ⟨w.heap.size,0,none⟩=some (.int .i64 0):=hz.cell 0
           have y0:wr.frozen? ⟨w.heap.size,0,none⟩=false:=hz.frozen 0
           have z1:wr.cell? ⟨w.heap.size,1,none⟩=some (.int .i64 0):=hz.cell 1
           have y1:wr.frozen? ⟨w.heap.size,1,none⟩=false:=hz.frozen 1
           have z2:wr.cell? ⟨w.heap.size,2,none⟩=some (.slice none 0 0):=hz.cell 2
           have y2:wr.frozen? ⟨w.heap.size,2,none⟩=false:=hz.frozen 2
           have z3:wr.cell? ⟨w.heap.size,3,none⟩=some (.slice none 0 0):=hz.cell 3
           have y3:wr.frozen? ⟨w.heap.size,3,none⟩=false:=hz.frozen 3
           have z4:wr.cell? ⟨w.heap.size,4,none⟩=some (.int .i64 0):=hz.cell 4
           have y4:wr.frozen? ⟨w.heap.size,4,none⟩=false:=hz.frozen 4
           have z5:wr.cell? ⟨w.heap.size,5,none⟩=some (.int .i64 0):=hz.cell 5
           have y5:wr.frozen? ⟨w.heap.size,5,none⟩=false:=hz.frozen 5
           have z6:wr.cell? ⟨w.heap.size,6,none⟩=some (.int .i64 0):=hz.cell 6
           have y6:wr.frozen? ⟨w.heap.size,6,none⟩=false:=hz.frozen 6
           have z7:wr.cell? ⟨w.heap.size,7,none⟩=some (.int .i64 0):=hz.cell 7
           have y7:wr.frozen? ⟨w.heap.size,7,none⟩=false:=hz.frozen 7
           clear hz hend
           have x0:wr.cell? ⟨w.heap.size+2,0,none⟩=some (.int .i64 71):=h5H.out.at2 0 (by omega)
           have x2:wr.cell? ⟨w.heap.size+2,2,none⟩=some (rv):=h5H.out.at2 2 (by omega)
           have x3:wr.cell? ⟨w.heap.size+2,3,none⟩=some (sv):=h5H.out.at2 3 (by omega)
           have x4:wr.cell? ⟨w.heap.size+2,4,none⟩=some (.int .i64 p.len):=h5H.out.at2 4 (by omega)
           have x5:wr.cell? ⟨w.heap.size+2,5,none⟩=some (.int .i64 p.nl):=h5H.out.at2 5 (by omega)
           have x6:wr.cell? ⟨w.heap.size+2,6,none⟩=some (.int .i64 p.first):=h5H.out.at2 6 (by omega)
           have x7:wr.cell? ⟨w.heap.size+2,7,none⟩=some (.int .i64 p.last):=h5H.out.at2 7 (by omega)
           have hbn:w.heap.size+2<wr.heap.size:=h5H.out.tm.blk.lt
           obtain ⟨ra,rn,rc,rfl⟩:=own_shape h5H.out.tm.rules
           obtain ⟨sa,sn,sc,rfl⟩:=own_shape h5H.out.tm.start
           have hfin:Hid (∀w3,Kept [w.heap.size] wr w3→RulesOut f w w3 (.returned (.tuple #[.agg #[.int .i64 71,.int .i64 (j:Int),.slice ra rn rc,.slice sa sn sc,.int .i64 p.len,.int .i64 p.nl,.int .i64 p.first,.int .i64 p.last],.bool true]))):=fun w3 k=>by
            obtain ⟨b3,v3⟩:=hendH.out w3 k
            rw [hTH.out] at v3
            refine ⟨b3,Or.inl ⟨hyes.out,_,_,v3,?_⟩⟩
            rw [←hTH.out];rfl
           clear hCH h5H hendH hTH hokH
           go_wp2
           refine bodyPost_ret (v:=.tuple #[.agg #[.int .i64 71,.int .i64 (j:Int),.slice ra rn rc,.slice sa sn sc,.int .i64 p.len,.int .i64 p.nl,.int .i64 p.first,.int .i64 p.last],.bool true]) (results_text Tryz.results30 _ _ w.heap.size _ rfl _ rfl rfl (hS.out _ _ _ _ _ _ _ _)) rfl ?_
           exact hfin.out _ (kept8 _ _ _ _ _ _ _ _ _ _)
end Go.Proofs.YtgifhgnccmnbiabGreat
