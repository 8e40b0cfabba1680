/- Part of the proof. -/
import Derived.Test.YtgifhgnccmnbiabGreatDoorG12
set_option linter.unusedVariables false
set_option linter.unusedSimpArgs false
set_option maxHeartbeats 4000000
set_option maxRecDepth 100000
namespace Go.Proofs.YtgifhgnccmnbiabGreatDoor
open Go.RowKit Go.IntWalk
theorem zL{w:World}{base yt:Nat}{e:TypeId}{size:Nat}{v:Value}{n:Nat}{xs:List Value}(h:w.ownsRow base e size v n xs)(hb:yt<=base):w.ownsRow yt e size v n xs:=by
 refine⟨h.1,?_⟩;rcases h.2 with h2|⟨g,c,u,h3,h4,r⟩
 ·exact Or.inl h2
 ·exact Or.inr ⟨g,c,u,h3,Nat.le_trans hb h4,r⟩
structure tD (w:World)(B:Nat)(t:TT)(rv sv:Value):Prop where
 rules:w.ownsRow B 221 6 rv t.rules.length (im t.rules)
 start:w.ownsRow B 3 1 sv t.start.length (aF t.start)
 small:∀x,x∈t.rules->ez x.pt
 whole:ez t.whole
def az:Array Value:=#[.int .i64 0,.int .i64 0,.slice none 0 0,.slice none 0 0,.int .i64 0,.int .i64 0,.int .i64 0,.int .i64 0]
theorem TM.val{w:World}{b E B:Nat}{pre post:Array Value}{t:TT}{rv sv:Value}(h:TM w b pre post E B t rv sv):tD w B t rv sv:=⟨h.rules,h.start,h.small,h.whole⟩
theorem tD.mono{w:World}{B C:Nat}{t:TT}{rv sv:Value}(h:tD w B t rv sv)(hc:C<=B):tD w C t rv sv:=⟨zL h.rules hc,zL h.start hc,h.small,h.whole⟩
theorem tD.kept{w w':World}{B:Nat}{t:TT}{rv sv:Value}{S:List Nat}(h:tD w B t rv sv)(k:Kept S w w')(hs:∀g,g∈S->g<B\/w.heap.size<=g):tD w' B t rv sv:=
 ⟨aQ h.rules k (fun g hg hc=>by have:=hs g hc;have:=h.rules.lt g hg;omega),aQ h.start k (fun g hg hc=>by have:=hs g hc;have:=h.start.lt g hg;omega),h.small,h.whole⟩
theorem Pf:(Tryz.prog.info? 86).map (·.size)=some 8:=by kernel_rfl
theorem aP{fn:Func}{p u:Tmp}(h:fn.results=#[.cell p 86,.tmp u])(tmps:Array Value)(w:World)(g:Nat)(cs:Array Value)(hs:cs.size=8)(v:Value)
 (hp:tmps.getD p undef=.pointer (some ⟨g,0,none⟩)) (hv:tmps.getD u undef=v) (hg:ah w g cs 86):(results fn tmps).run Tryz.prog w=.ok (.tuple #[.agg cs,v]) w:=by
 rw[results_cell_tmp h,hp,hv];simp only[asAddr,Sem.run_pure,Result.andThen_ok];rw[run_loadVar_row w g _ 86 cs (0,0) _ hg Tryz.underlying86 rfl (by rw[hs];exact Pf)];rfl
theorem wj{w:World}{g:Nat}{E:TypeId}(h:ah w g az E)(u0 u1 u2 u3 u4 u5 u6 u7:Value):
 ah ((((((((w.setCell ⟨g,0,none⟩ u0).setCell ⟨g,1,none⟩ u1).setCell ⟨g,2,none⟩ u2).setCell ⟨g,3,none⟩ u3).setCell ⟨g,4,none⟩ u4).setCell ⟨g,5,none⟩ u5).setCell ⟨g,6,none⟩ u6).setCell ⟨g,7,none⟩ u7) g #[u0,u1,u2,u3,u4,u5,u6,u7] E:=by
 have h0:ah (w.setCell ⟨g,0,none⟩ u0) g #[u0,.int .i64 0,.slice none 0 0,.slice none 0 0,.int .i64 0,.int .i64 0,.int .i64 0,.int .i64 0] E:=h.set 0 u0;have h1:ah ((w.setCell ⟨g,0,none⟩ u0).setCell ⟨g,1,none⟩ u1) g #[u0,u1,.slice none 0 0,.slice none 0 0,.int .i64 0,.int .i64 0,.int .i64 0,.int .i64 0] E:=h0.set 1 u1;have h2:ah (((w.setCell ⟨g,0,none⟩ u0).setCell ⟨g,1,none⟩ u1).setCell ⟨g,2,none⟩ u2) g #[u0,u1,u2,.slice none 0 0,.int .i64 0,.int .i64 0,.int .i64 0,.int .i64 0] E:=h1.set 2 u2;have h3:ah ((((w.setCell ⟨g,0,none⟩ u0).setCell ⟨g,1,none⟩ u1).setCell ⟨g,2,none⟩ u2).setCell ⟨g,3,none⟩ u3) g #[u0,u1,u2,u3,.int .i64 0,.int .i64 0,.int .i64 0,.int .i64 0] E:=h2.set 3 u3;have h4:ah (((((w.setCell ⟨g,0,none⟩ u0).setCell ⟨g,1,none⟩ u1).setCell ⟨g,2,none⟩ u2).setCell ⟨g,3,none⟩ u3).setCell ⟨g,4,none⟩ u4) g #[u0,u1,u2,u3,u4,.int .i64 0,.int .i64 0,.int .i64 0] E:=h3.set 4 u4;have h5:ah ((((((w.setCell ⟨g,0,none⟩ u0).setCell ⟨g,1,none⟩ u1).setCell ⟨g,2,none⟩ u2).setCell ⟨g,3,none⟩ u3).setCell ⟨g,4,none⟩ u4).setCell ⟨g,5,none⟩ u5) g #[u0,u1,u2,u3,u4,u5,.int .i64 0,.int .i64 0] E:=h4.set 5 u5;have h6:ah (((((((w.setCell ⟨g,0,none⟩ u0).setCell ⟨g,1,none⟩ u1).setCell ⟨g,2,none⟩ u2).setCell ⟨g,3,none⟩ u3).setCell ⟨g,4,none⟩ u4).setCell ⟨g,5,none⟩ u5).setCell ⟨g,6,none⟩ u6) g #[u0,u1,u2,u3,u4,u5,u6,.int .i64 0] E:=h5.set 6 u6;have h7:ah ((((((((w.setCell ⟨g,0,none⟩ u0).setCell ⟨g,1,none⟩ u1).setCell ⟨g,2,none⟩ u2).setCell ⟨g,3,none⟩ u3).setCell ⟨g,4,none⟩ u4).setCell ⟨g,5,none⟩ u5).setCell ⟨g,6,none⟩ u6).setCell ⟨g,7,none⟩ u7) g #[u0,u1,u2,u3,u4,u5,u6,u7] E:=h6.set 7 u7;exact h7
theorem pn(w:World)(g:Nat)(u0 u1 u2 u3 u4 u5 u6 u7:Value):
 Kept [g] w ((((((((w.setCell ⟨g,0,none⟩ u0).setCell ⟨g,1,none⟩ u1).setCell ⟨g,2,none⟩ u2).setCell ⟨g,3,none⟩ u3).setCell ⟨g,4,none⟩ u4).setCell ⟨g,5,none⟩ u5).setCell ⟨g,6,none⟩ u6).setCell ⟨g,7,none⟩ u7):=
 have s:=List.mem_singleton.2 (rfl:g=g)
 ((((((((Kept.refl [g] w).setCell (p:=⟨g,0,none⟩) (Or.inl s) u0).setCell (p:=⟨g,1,none⟩) (Or.inl s) u1).setCell (p:=⟨g,2,none⟩) (Or.inl s) u2).setCell (p:=⟨g,3,none⟩) (Or.inl s) u3).setCell (p:=⟨g,4,none⟩) (Or.inl s) u4).setCell (p:=⟨g,5,none⟩) (Or.inl s) u5).setCell (p:=⟨g,6,none⟩) (Or.inl s) u6).setCell (p:=⟨g,7,none⟩) (Or.inl s) u7
structure wu (f:ByteArray)(w w':World)(e:Ending):Prop where
 below:Below w.heap.size w w'
 out:(kg f=true/\∃rv sv,tD w' w.heap.size (M1 f) rv sv/\e=.returned (.tuple #[.agg ((M1 f).cells rv sv),.bool true]))\/(kg f=false/\e=.returned (.tuple #[.agg az,.bool false]))
structure tX (w0 w:World)(n:Nat)(f:ByteArray)(s:RS)(t:TT)(rv sv:Value):Prop where
 rg:RG w (n+1) f s
 tm:TM w (n+2) #[] #[] 86 (n+3) t rv sv
 below:Below (n+1) w0 w
theorem tX.read{w0 w w':World}{n:Nat}{f:ByteArray}{s s':RS}{t:TT}{rv sv:Value}(h:tX w0 w n f s t rv sv)(r:RG w' (n+1) f s')(k:Kept [n+1] w w'):tX w0 w' n f s' t rv sv:=
 ⟨r,h.tm.other k (by omega) (by omega),h.below.trans (k.below (by have:=h.rg.lt;omega) (by simp))⟩
theorem tX.text{w0 w w':World}{n:Nat}{f:ByteArray}{s:RS}{t t':TT}{rv sv Sv sv':Value}(h:tX w0 w n f s t rv sv)(m:TM w' (n+2) #[] #[] 86 (n+3) t' Sv sv')(k:gU (n+3) (n+2) w w'):tX w0 w' n f s t' Sv sv':=
 ⟨k.aD h.rg (by omega) (by omega),m,h.below.trans (k.below (by omega) (by omega))⟩
theorem tX.syms{w0 w:World}{n:Nat}{f:ByteArray}{s:RS}{t:TT}{rv sv:Value}(h:tX w0 w n f s t rv sv)(N:Nat):tX w0 (w.setCell ⟨n+2,1,none⟩ (.int .i64 (N:Int))) n f s { t with syms:=N} rv sv:=
 ⟨h.rg.other 1 _ (by omega),⟨nf (cs:=t.cells rv sv) (o:=0) (j:=1) (cs':=TT.cells { t with syms:=N} rv sv) h.tm.aD rfl (by simp[TT.cells]) _ rfl,h.tm.lt,by have:=h.tm.up;simpa [World.setCell] using this,cB h.tm.rules (by omega) _ _,cB h.tm.start (by omega) _ _,h.tm.small,h.tm.whole⟩,h.below.setCell (by simp) _⟩
theorem tX.vS{w0 w:World}{n:Nat}{f:ByteArray}{s:RS}{t:TT}{rv sv:Value}(h:tX w0 w n f s t rv sv)(j:Nat)(hj:j<8):w.cell? ⟨n+2,j,none⟩=(t.cells rv sv)[j]?:=by
 have:=h.tm.cell (o:=0) rfl j hj;rwa [Nat.zero_add]at this
theorem Ij(w:World)(b:Nat)(f:ByteArray)(h:RG w b f (2,false))(hf:f.size<=4000):
 Calls Tryz.prog 127 #[.pointer (some ⟨b,0,none⟩),.int .i64 1,.int .i64 100] w fun e w'=>e=.returned (.int .i64 ((ja f).1:Int))/\RG w' b f (ja f).2/\Kept [b] w w':=
 uA w b f (2,false) h (by omega) (by simp) 1 (Or.inl rfl) 100 (by omega)
theorem yQ(w:World)(b:Nat)(f:ByteArray)(s:RS)(h:RG w b f s)(hf:f.size<=4000)(hs:s.1<=99000):
 Calls Tryz.prog 127 #[.pointer (some ⟨b,0,none⟩),.int .i64 2,.int .i64 1000] w fun e w'=>e=.returned (.int .i64 ((aX f 2 1000 s).1:Int))/\RG w' b f (aX f 2 1000 s).2/\Kept [b] w w':=
 uA w b f s h (by omega) hs 2 (Or.inr rfl) 1000 (by omega)
theorem bp{w:World}{base:Nat}{e:TypeId}{size:Nat}{v:Value}{n:Nat}{xs:List Value}(h:w.ownsRow base e size v n xs):∃a k c,v=.slice a k c:=by
 rcases h.2 with⟨h2,_⟩|⟨g,c,u,h3,_⟩
 ·exact⟨_,_,_,h2⟩
 ·exact⟨_,_,_,h3⟩
theorem iW{f:ByteArray}{w w2 w3:World}{s:RS}{t:TT}{rv sv:Value}(h:tX (w.alloc (.cells az 86)) w2 w.heap.size f s t rv sv):
 ah w2 w.heap.size az 86/\(∀w3,Kept [w.heap.size] w2 w3->Below w.heap.size w w3/\tD w3 w.heap.size t rv sv):=by
 refine⟨(h.below.block _ (by omega)).trans (ah.new w _ _),fun w3 k=>⟨?_,?_⟩⟩
 ·exact(((Below.refl w.heap.size w).alloc (Nat.le_refl _) _).trans (h.below.mono (by omega))).trans (k.below (by have:=h.below.size;simp at this;omega) (by simp))
 ·exact(h.tm.val.kept k (fun g hg=>by simp at hg;omega)).mono (by omega)
theorem CZ(f:ByteArray)(hf:f.size<=4000)(w:World):
 Calls Tryz.prog 84 #[.string f] w fun e w'=>wu f w w' e:=by
 obtain⟨n,hn⟩:∃n,n=w.heap.size:=⟨_,rfl⟩;have h0:tX (w.alloc (.cells az 86)) (((w.alloc (.cells az 86)).alloc (.cells #[.string f,.int .i64 2,.bool false] 208)).alloc (.cells #[.int .i64 71,.int .i64 0,.slice none 0 0,.slice none 0 0,.int .i64 0,.int .i64 0,.int .i64 0,.int .i64 0] 86)) w.heap.size f (2,false) { kind:=71} (.slice none 0 0) (.slice none 0 0):=by
  refine⟨?_,⟨?_,by omega,by simp,World.ownsRow_nil _ _ _ 6,World.ownsRow_nil _ _ _ 1,(fun x hx=>nomatch hx),⟨by simp,by simp⟩⟩,?_⟩
  ·have:=(ah.new (w.alloc (.cells az 86)) #[.string f,.int .i64 2,.bool false] 208).alloc (.cells #[.int .i64 71,.int .i64 0,.slice none 0 0,.slice none 0 0,.int .i64 0,.int .i64 0,.int .i64 0,.int .i64 0] 86);unfold RG;simpa using this
  ·have:=ah.new ((w.alloc (.cells az 86)).alloc (.cells #[.string f,.int .i64 2,.bool false] 208)) #[.int .i64 71,.int .i64 0,.slice none 0 0,.slice none 0 0,.int .i64 0,.int .i64 0,.int .i64 0,.int .i64 0] 86;simpa [TT.cells] using this
  ·exact((Below.refl (w.heap.size+1) _).alloc (by simp) _).alloc (by simp) _
 have hRb:=Fy f;have h0H:Hid (tX _ _ _ _ _ _ _ _):=h0;have RV:Hid (Calls _ _ _ _ _):=Ij _ _ f h0.rg hf;unfold az at RV;clear h0 hn;go_enter Tryz.func84,Tryz.ntmps84
 go_wp2_with fail
 refine RV.out.mono ?_;rintro e w1 ⟨rfl,r1,k1⟩;have h1:Hid (tX _ _ _ _ _ _ _ _):=h0H.out.read r1 k1;clear RV h0H r1 k1;go_wp2_with fail
 go_loopw [7] (fun iv wr=>∃q:Nat,iv=.int .i64 (q:Int)/\q<=(ja f).1/\∃rv,tX (w.alloc (.cells az 86)) wr w.heap.size f (qW f (ja f).2 q).2 { kind:=71,rules:=(qW f (ja f).2 q).1} rv (.slice none 0 0)) (fun iv _=>(((ja f).1:Int)-intOf iv).toNat)
 case atStart=>exact⟨0,rfl,Nat.zero_le _,_,h1.out⟩
 case round=>
  obtain⟨q,rfl,hq,rv,h2⟩:=hrel;clear h1;have hqat:=Lb f (ja f).2 q;have Xy:=Fx f (ja f).2 q;have e2:wr.cell? ⟨w.heap.size+1,2,none⟩=some (.bool (qW f (ja f).2 q).2.2):=h2.rg.cell 2;obtain⟨bad,dO⟩:∃bad,bad=(qW f (ja f).2 q).2.2:=⟨_,rfl⟩;rw[<-dO]at e2;have Sw:Hid (_=_):=dO;clear dO;by_cases bO:(q:Int)<((ja f).1:Int)
  ·cases bad with
   | false=>
     have qz:Hid (Calls _ _ _ _ _):=nV wr (w.heap.size+1) f _ h2.rg (by omega) (by omega) q (by omega);have Gx:Hid (tX _ _ _ _ _ _ _ _):=h2;clear h2;go_wp2_with fail
     refine qz.out.mono ?_;rintro e w3 ⟨rfl,r3,k3⟩;have h3:=Gx.out.read r3 k3;have hA1:=(mA f 2 (255+q) (qW f (ja f).2 q).2).2;have hL1:=mC f 2 (255+q) (qW f (ja f).2 q).2;have ji:Hid (Calls _ _ _ _ _):=nV w3 (w.heap.size+1) f _ h3.rg (by omega) (by omega) q (by omega);have h3H:Hid (tX _ _ _ _ _ _ _ _):=h3;clear qz r3 k3 h3 Gx e2;go_wp2_with fail
     refine ji.out.mono ?_;rintro e w4 ⟨rfl,r4,k4⟩;have h4:=h3H.out.read r4 k4;have Y5:=mC f 2 (255+q) (aX f 2 (255+q) (qW f (ja f).2 q).2).2;have Rf:Hid (Calls _ _ _ _ _):=rY h4.tm (o:=0) rfl (aX f 2 (255+q) (qW f (ja f).2 q).2).1 (aX f 2 (255+q) (aX f 2 (255+q) (qW f (ja f).2 q).2).2).1 (by omega) (by omega) (by simp only[];omega);have h4H:Hid (tX _ _ _ _ _ _ _ _):=h4;clear ji r4 k4 h4 h3H;go_wp2_with fail
     refine Rf.out.mono ?_;rintro e w5 ⟨rfl,f5,rv5,t5⟩;have h5:Hid (tX _ _ _ _ _ _ _ _):=h4H.out.text t5 f5;clear Rf h4H f5 t5;go_wp2
     refine⟨⟨q+1,by go_num,by omega,_,h5.out⟩,?_⟩;simp only[intOf];omega
   | true=>
     have hA:Hid (gV _ _ _):=gV.of hq (Or.inl Sw.out.symm);clear Sw hqat Xy;generalize (qW f (ja f).2 q).1=rs at *;generalize (qW f (ja f).2 q).2=S at *;have Yv:Hid (Calls _ _ _ _ _):=yQ wr (w.heap.size+1) f S h2.rg hf (by have:=hA.out.at_;omega);have Gx:Hid (tX _ _ _ _ _ _ _ _):=h2;clear h2;go_wp2_with fail
     refine Yv.out.mono ?_;rintro e w3 ⟨rfl,r3,k3⟩;have h3:=Gx.out.read r3 k3;have hC:=hA.out.count;generalize aX f 2 1000 S=NS at *;obtain⟨N,s3⟩:=NS;simp only[]at h3 hC r3;have hN:=hC.up;have d1:w3.cell? ⟨w.heap.size+2,1,none⟩=some (.int .i64 0):=h3.vS 1 (by omega);have d2:w3.frozen? ⟨w.heap.size+2,1,none⟩=false:=h3.tm.aD.frozen 1;have h4:Hid (tX _ _ _ _ _ _ _ _):=h3.syms N;have hC:Hid (dr _ _ _ _ _ _ _):=hC;clear Yv Gx r3 k3 h3 hA;go_wp2_with fail
     go_loopw [10] (fun jv wr=>∃(j:Nat) (l:List Nat) (p:PT) (s:RS) (sv:Value),jv=.int .i64 (j:Int)/\j<=N/\dr f rs N j l p s/\tX (w.alloc (.cells az 86)) wr w.heap.size f s { kind:=71,syms:=N,rules:=rs,start:=l,whole:=p} rv sv) (fun jv _=>((N:Int)-intOf jv).toNat)
     case atStart=>exact⟨0,[],{},s3,_,rfl,Nat.zero_le _,hC.out,h4.out⟩
     case round=>
      obtain⟨j,l,p,s,sv,rfl,hj,hC,h5⟩:=hrel;clear h4 d1 d2;have hRb1:=(Fy f).1;have Y6:=hC.at_;have wv:=hC.len;have OS:=hC.Y4;have e1:wr.cell? ⟨w.heap.size+1,1,none⟩=some (.int .i64 (s.1:Int)):=h5.rg.cell 1;have e2:wr.cell? ⟨w.heap.size+1,2,none⟩=some (.bool s.2):=h5.rg.cell 2;have e3:wr.cell? ⟨w.heap.size+2,1,none⟩=some (.int .i64 (N:Int)):=h5.vS 1 (by omega);have lZ:Hid (dr _ _ _ _ _ _ _):=hC;have oA:Hid (tX _ _ _ _ _ _ _ _):=h5;obtain⟨p0,bad⟩:=s;simp only[]at e1 e2 Y6;clear hC h5;by_cases hjl:(j:Int)<(N:Int)
      ·cases bad with
       | false=>
         have qz:Hid (Calls _ _ _ _ _):=nV wr (w.heap.size+1) f _ oA.out.rg (by omega) (by simp only[];omega) (ja f).1 (by omega);go_wp2_with fail
         refine qz.out.mono ?_;rintro e w6 ⟨rfl,r6,k6⟩;have h6:=oA.out.read r6 k6;have hC6:Hid (dr _ _ _ _ _ _ _):=lZ.out.next (by omega) rfl;have ix:(aX f 2 (255+(ja f).1) (p0,false)).1<=1000:=Nat.le_trans (mC _ _ _ _) (by omega);have dy:Hid (Calls _ _ _ _ _):=fB h6.tm (o:=0) rfl (aX f 2 (255+(ja f).1) (p0,false)).1 (by omega) (by simp only[];omega) (by simp only[];omega);have h6H:Hid (tX _ _ _ _ _ _ _ _):=h6;generalize aX f 2 (255+(ja f).1) (p0,false)=C at *;clear qz r6 k6 h6 e1 e2 e3 lZ oA;go_wp2_with fail
         refine dy.out.mono ?_;rintro e w7 ⟨rfl,f7,sv7,t7⟩;have h7:Hid (tX _ _ _ _ _ _ _ _):=h6H.out.text t7 f7;clear dy h6H f7 t7;go_wp2
         refine⟨⟨j+1,_,_,_,_,by go_num,by omega,hC6.out,h7.out⟩,?_⟩;simp only[intOf];omega
       | true=>
         have kJ:Hid (kg f=false):=lZ.out.bad rfl;obtain⟨hz,dE⟩:=iW (w3:=wr) oA.out;have gF:Hid (∀w3,_->_):=dE;have hS:Hid (∀u0 u1 u2 u3 u4 u5 u6 u7,ah _ _ _ _):=fun u0 u1 u2 u3 u4 u5 u6 u7=>wj hz u0 u1 u2 u3 u4 u5 u6 u7;unfold az at hz;have z0:wr.cell? ⟨w.heap.size,0,none⟩=some (.int .i64 0):=hz.cell 0;have y0:wr.frozen? ⟨w.heap.size,0,none⟩=false:=hz.frozen 0;have z1:wr.cell? ⟨w.heap.size,1,none⟩=some (.int .i64 0):=hz.cell 1;have y1:wr.frozen? ⟨w.heap.size,1,none⟩=false:=hz.frozen 1;have z2:wr.cell? ⟨w.heap.size,2,none⟩=some (.slice none 0 0):=hz.cell 2;have y2:wr.frozen? ⟨w.heap.size,2,none⟩=false:=hz.frozen 2;have z3:wr.cell? ⟨w.heap.size,3,none⟩=some (.slice none 0 0):=hz.cell 3;have y3:wr.frozen? ⟨w.heap.size,3,none⟩=false:=hz.frozen 3;have z4:wr.cell? ⟨w.heap.size,4,none⟩=some (.int .i64 0):=hz.cell 4;have y4:wr.frozen? ⟨w.heap.size,4,none⟩=false:=hz.frozen 4;have z5:wr.cell? ⟨w.heap.size,5,none⟩=some (.int .i64 0):=hz.cell 5;have y5:wr.frozen? ⟨w.heap.size,5,none⟩=false:=hz.frozen 5;have z6:wr.cell? ⟨w.heap.size,6,none⟩=some (.int .i64 0):=hz.cell 6;have y6:wr.frozen? ⟨w.heap.size,6,none⟩=false:=hz.frozen 6;have z7:wr.cell? ⟨w.heap.size,7,none⟩=some (.int .i64 0):=hz.cell 7;have y7:wr.frozen? ⟨w.heap.size,7,none⟩=false:=hz.frozen 7;clear hz dE;clear lZ oA;go_wp2
         exact bodyPost_ret (v:=.tuple #[.agg az,.bool false]) (aP Tryz.results84 _ _ w.heap.size az rfl _ rfl rfl (hS.out _ _ _ _ _ _ _ _)) rfl ⟨(gF.out _ (pn _ _ _ _ _ _ _ _ _ _)).1,Or.inr ⟨kJ.out,rfl⟩⟩
      ·have uc:j=N:=by omega
       subst uc;cases bad with
       | true=>
         have kJ:Hid (kg f=false):=lZ.out.bad rfl;obtain⟨hz,dE⟩:=iW (w3:=wr) oA.out;have gF:Hid (∀w3,_->_):=dE;have hS:Hid (∀u0 u1 u2 u3 u4 u5 u6 u7,ah _ _ _ _):=fun u0 u1 u2 u3 u4 u5 u6 u7=>wj hz u0 u1 u2 u3 u4 u5 u6 u7;unfold az at hz;have z0:wr.cell? ⟨w.heap.size,0,none⟩=some (.int .i64 0):=hz.cell 0;have y0:wr.frozen? ⟨w.heap.size,0,none⟩=false:=hz.frozen 0;have z1:wr.cell? ⟨w.heap.size,1,none⟩=some (.int .i64 0):=hz.cell 1;have y1:wr.frozen? ⟨w.heap.size,1,none⟩=false:=hz.frozen 1;have z2:wr.cell? ⟨w.heap.size,2,none⟩=some (.slice none 0 0):=hz.cell 2;have y2:wr.frozen? ⟨w.heap.size,2,none⟩=false:=hz.frozen 2;have z3:wr.cell? ⟨w.heap.size,3,none⟩=some (.slice none 0 0):=hz.cell 3;have y3:wr.frozen? ⟨w.heap.size,3,none⟩=false:=hz.frozen 3;have z4:wr.cell? ⟨w.heap.size,4,none⟩=some (.int .i64 0):=hz.cell 4;have y4:wr.frozen? ⟨w.heap.size,4,none⟩=false:=hz.frozen 4;have z5:wr.cell? ⟨w.heap.size,5,none⟩=some (.int .i64 0):=hz.cell 5;have y5:wr.frozen? ⟨w.heap.size,5,none⟩=false:=hz.frozen 5;have z6:wr.cell? ⟨w.heap.size,6,none⟩=some (.int .i64 0):=hz.cell 6;have y6:wr.frozen? ⟨w.heap.size,6,none⟩=false:=hz.frozen 6;have z7:wr.cell? ⟨w.heap.size,7,none⟩=some (.int .i64 0):=hz.cell 7;have y7:wr.frozen? ⟨w.heap.size,7,none⟩=false:=hz.frozen 7;clear hz dE;clear lZ oA;go_wp2
         exact bodyPost_ret (v:=.tuple #[.agg az,.bool false]) (aP Tryz.results84 _ _ w.heap.size az rfl _ rfl rfl (hS.out _ _ _ _ _ _ _ _)) rfl ⟨(gF.out _ (pn _ _ _ _ _ _ _ _ _ _)).1,Or.inr ⟨kJ.out,rfl⟩⟩
       | false=>
         obtain⟨zH,hT⟩:=lZ.out.fin rfl;simp only[]at zH;have Le:Hid (_=_):=zH;have pq:Hid (_=_):=hT;clear zH hT;by_cases An:(p0:Int)<(f.size:Int)
         ·have kJ:Hid (kg f=false):=by rw[Le.out];exact decide_eq_false (by omega)
          obtain⟨hz,dE⟩:=iW (w3:=wr) oA.out;have gF:Hid (∀w3,_->_):=dE;have hS:Hid (∀u0 u1 u2 u3 u4 u5 u6 u7,ah _ _ _ _):=fun u0 u1 u2 u3 u4 u5 u6 u7=>wj hz u0 u1 u2 u3 u4 u5 u6 u7;unfold az at hz;have z0:wr.cell? ⟨w.heap.size,0,none⟩=some (.int .i64 0):=hz.cell 0;have y0:wr.frozen? ⟨w.heap.size,0,none⟩=false:=hz.frozen 0;have z1:wr.cell? ⟨w.heap.size,1,none⟩=some (.int .i64 0):=hz.cell 1;have y1:wr.frozen? ⟨w.heap.size,1,none⟩=false:=hz.frozen 1;have z2:wr.cell? ⟨w.heap.size,2,none⟩=some (.slice none 0 0):=hz.cell 2;have y2:wr.frozen? ⟨w.heap.size,2,none⟩=false:=hz.frozen 2;have z3:wr.cell? ⟨w.heap.size,3,none⟩=some (.slice none 0 0):=hz.cell 3;have y3:wr.frozen? ⟨w.heap.size,3,none⟩=false:=hz.frozen 3;have z4:wr.cell? ⟨w.heap.size,4,none⟩=some (.int .i64 0):=hz.cell 4;have y4:wr.frozen? ⟨w.heap.size,4,none⟩=false:=hz.frozen 4;have z5:wr.cell? ⟨w.heap.size,5,none⟩=some (.int .i64 0):=hz.cell 5;have y5:wr.frozen? ⟨w.heap.size,5,none⟩=false:=hz.frozen 5;have z6:wr.cell? ⟨w.heap.size,6,none⟩=some (.int .i64 0):=hz.cell 6;have y6:wr.frozen? ⟨w.heap.size,6,none⟩=false:=hz.frozen 6;have z7:wr.cell? ⟨w.heap.size,7,none⟩=some (.int .i64 0):=hz.cell 7;have y7:wr.frozen? ⟨w.heap.size,7,none⟩=false:=hz.frozen 7;clear hz dE;clear lZ oA;go_wp2
          exact bodyPost_ret (v:=.tuple #[.agg az,.bool false]) (aP Tryz.results84 _ _ w.heap.size az rfl _ rfl rfl (hS.out _ _ _ _ _ _ _ _)) rfl ⟨(gF.out _ (pn _ _ _ _ _ _ _ _ _ _)).1,Or.inr ⟨kJ.out,rfl⟩⟩
         ·have zo:Hid (kg f=true):=by rw[Le.out];exact decide_eq_true (by omega)
          obtain⟨hz,dE⟩:=iW (w3:=wr) oA.out;have gF:Hid (∀w3,_->_):=dE;have hS:Hid (∀u0 u1 u2 u3 u4 u5 u6 u7,ah _ _ _ _):=fun u0 u1 u2 u3 u4 u5 u6 u7=>wj hz u0 u1 u2 u3 u4 u5 u6 u7;unfold az at hz;have z0:wr.cell? ⟨w.heap.size,0,none⟩=some (.int .i64 0):=hz.cell 0;have y0:wr.frozen? ⟨w.heap.size,0,none⟩=false:=hz.frozen 0;have z1:wr.cell? ⟨w.heap.size,1,none⟩=some (.int .i64 0):=hz.cell 1;have y1:wr.frozen? ⟨w.heap.size,1,none⟩=false:=hz.frozen 1;have z2:wr.cell? ⟨w.heap.size,2,none⟩=some (.slice none 0 0):=hz.cell 2;have y2:wr.frozen? ⟨w.heap.size,2,none⟩=false:=hz.frozen 2;have z3:wr.cell? ⟨w.heap.size,3,none⟩=some (.slice none 0 0):=hz.cell 3;have y3:wr.frozen? ⟨w.heap.size,3,none⟩=false:=hz.frozen 3;have z4:wr.cell? ⟨w.heap.size,4,none⟩=some (.int .i64 0):=hz.cell 4;have y4:wr.frozen? ⟨w.heap.size,4,none⟩=false:=hz.frozen 4;have z5:wr.cell? ⟨w.heap.size,5,none⟩=some (.int .i64 0):=hz.cell 5;have y5:wr.frozen? ⟨w.heap.size,5,none⟩=false:=hz.frozen 5;have z6:wr.cell? ⟨w.heap.size,6,none⟩=some (.int .i64 0):=hz.cell 6;have y6:wr.frozen? ⟨w.heap.size,6,none⟩=false:=hz.frozen 6;have z7:wr.cell? ⟨w.heap.size,7,none⟩=some (.int .i64 0):=hz.cell 7;have y7:wr.frozen? ⟨w.heap.size,7,none⟩=false:=hz.frozen 7;clear hz dE;have x0:wr.cell? ⟨w.heap.size+2,0,none⟩=some (.int .i64 71):=oA.out.vS 0 (by omega);have x2:wr.cell? ⟨w.heap.size+2,2,none⟩=some (rv):=oA.out.vS 2 (by omega);have x3:wr.cell? ⟨w.heap.size+2,3,none⟩=some (sv):=oA.out.vS 3 (by omega);have x4:wr.cell? ⟨w.heap.size+2,4,none⟩=some (.int .i64 p.len):=oA.out.vS 4 (by omega);have x5:wr.cell? ⟨w.heap.size+2,5,none⟩=some (.int .i64 p.nl):=oA.out.vS 5 (by omega);have x6:wr.cell? ⟨w.heap.size+2,6,none⟩=some (.int .i64 p.first):=oA.out.vS 6 (by omega);have x7:wr.cell? ⟨w.heap.size+2,7,none⟩=some (.int .i64 p.last):=oA.out.vS 7 (by omega);have hbn:w.heap.size+2<wr.heap.size:=oA.out.tm.aD.lt;obtain⟨ra,rn,rc,rfl⟩:=bp oA.out.tm.rules;obtain⟨sa,sn,sc,rfl⟩:=bp oA.out.tm.start;have aA:Hid (∀w3,Kept [w.heap.size] wr w3->wu f w w3 (.returned (.tuple #[.agg #[.int .i64 71,.int .i64 (j:Int),.slice ra rn rc,.slice sa sn sc,.int .i64 p.len,.int .i64 p.nl,.int .i64 p.first,.int .i64 p.last],.bool true]))):=fun w3 k=>by
           obtain⟨b3,v3⟩:=gF.out w3 k;rw[pq.out]at v3;refine⟨b3,Or.inl ⟨zo.out,_,_,v3,?_⟩⟩;rw[<-pq.out];rfl
          clear lZ oA gF pq Le;go_wp2
          refine bodyPost_ret (v:=.tuple #[.agg #[.int .i64 71,.int .i64 (j:Int),.slice ra rn rc,.slice sa sn sc,.int .i64 p.len,.int .i64 p.nl,.int .i64 p.first,.int .i64 p.last],.bool true]) (aP Tryz.results84 _ _ w.heap.size _ rfl _ rfl rfl (hS.out _ _ _ _ _ _ _ _)) rfl ?_;exact aA.out _ (pn _ _ _ _ _ _ _ _ _ _)
  ·have p':q=(ja f).1:=by omega
   have hA:Hid (gV _ _ _):=gV.of hq (Or.inr p');have hnl:¬(q:Int)<((ja f).1:Int):=bO;clear Sw hqat Xy p' bO;generalize (qW f (ja f).2 q).1=rs at *;generalize (qW f (ja f).2 q).2=S at *;have Yv:Hid (Calls _ _ _ _ _):=yQ wr (w.heap.size+1) f S h2.rg hf (by have:=hA.out.at_;omega);have Gx:Hid (tX _ _ _ _ _ _ _ _):=h2;clear h2;go_wp2_with fail
   refine Yv.out.mono ?_;rintro e w3 ⟨rfl,r3,k3⟩;have h3:=Gx.out.read r3 k3;have hC:=hA.out.count;generalize aX f 2 1000 S=NS at *;obtain⟨N,s3⟩:=NS;simp only[]at h3 hC r3;have hN:=hC.up;have d1:w3.cell? ⟨w.heap.size+2,1,none⟩=some (.int .i64 0):=h3.vS 1 (by omega);have d2:w3.frozen? ⟨w.heap.size+2,1,none⟩=false:=h3.tm.aD.frozen 1;have h4:Hid (tX _ _ _ _ _ _ _ _):=h3.syms N;have hC:Hid (dr _ _ _ _ _ _ _):=hC;clear Yv Gx r3 k3 h3 hA;go_wp2_with fail
   go_loopw [10] (fun jv wr=>∃(j:Nat) (l:List Nat) (p:PT) (s:RS) (sv:Value),jv=.int .i64 (j:Int)/\j<=N/\dr f rs N j l p s/\tX (w.alloc (.cells az 86)) wr w.heap.size f s { kind:=71,syms:=N,rules:=rs,start:=l,whole:=p} rv sv) (fun jv _=>((N:Int)-intOf jv).toNat)
   case atStart=>exact⟨0,[],{},s3,_,rfl,Nat.zero_le _,hC.out,h4.out⟩
   case round=>
    obtain⟨j,l,p,s,sv,rfl,hj,hC,h5⟩:=hrel;clear h4 d1 d2;have hRb1:=(Fy f).1;have Y6:=hC.at_;have wv:=hC.len;have OS:=hC.Y4;have e1:wr.cell? ⟨w.heap.size+1,1,none⟩=some (.int .i64 (s.1:Int)):=h5.rg.cell 1;have e2:wr.cell? ⟨w.heap.size+1,2,none⟩=some (.bool s.2):=h5.rg.cell 2;have e3:wr.cell? ⟨w.heap.size+2,1,none⟩=some (.int .i64 (N:Int)):=h5.vS 1 (by omega);have lZ:Hid (dr _ _ _ _ _ _ _):=hC;have oA:Hid (tX _ _ _ _ _ _ _ _):=h5;obtain⟨p0,bad⟩:=s;simp only[]at e1 e2 Y6;clear hC h5;by_cases hjl:(j:Int)<(N:Int)
    ·cases bad with
     | false=>
       have qz:Hid (Calls _ _ _ _ _):=nV wr (w.heap.size+1) f _ oA.out.rg (by omega) (by simp only[];omega) (ja f).1 (by omega);go_wp2_with fail
       refine qz.out.mono ?_;rintro e w6 ⟨rfl,r6,k6⟩;have h6:=oA.out.read r6 k6;have hC6:Hid (dr _ _ _ _ _ _ _):=lZ.out.next (by omega) rfl;have ix:(aX f 2 (255+(ja f).1) (p0,false)).1<=1000:=Nat.le_trans (mC _ _ _ _) (by omega);have dy:Hid (Calls _ _ _ _ _):=fB h6.tm (o:=0) rfl (aX f 2 (255+(ja f).1) (p0,false)).1 (by omega) (by simp only[];omega) (by simp only[];omega);have h6H:Hid (tX _ _ _ _ _ _ _ _):=h6;generalize aX f 2 (255+(ja f).1) (p0,false)=C at *;clear qz r6 k6 h6 e1 e2 e3 lZ oA;go_wp2_with fail
       refine dy.out.mono ?_;rintro e w7 ⟨rfl,f7,sv7,t7⟩;have h7:Hid (tX _ _ _ _ _ _ _ _):=h6H.out.text t7 f7;clear dy h6H f7 t7;go_wp2
       refine⟨⟨j+1,_,_,_,_,by go_num,by omega,hC6.out,h7.out⟩,?_⟩;simp only[intOf];omega
     | true=>
       have kJ:Hid (kg f=false):=lZ.out.bad rfl;obtain⟨hz,dE⟩:=iW (w3:=wr) oA.out;have gF:Hid (∀w3,_->_):=dE;have hS:Hid (∀u0 u1 u2 u3 u4 u5 u6 u7,ah _ _ _ _):=fun u0 u1 u2 u3 u4 u5 u6 u7=>wj hz u0 u1 u2 u3 u4 u5 u6 u7;unfold az at hz;have z0:wr.cell? ⟨w.heap.size,0,none⟩=some (.int .i64 0):=hz.cell 0;have y0:wr.frozen? ⟨w.heap.size,0,none⟩=false:=hz.frozen 0;have z1:wr.cell? ⟨w.heap.size,1,none⟩=some (.int .i64 0):=hz.cell 1;have y1:wr.frozen? ⟨w.heap.size,1,none⟩=false:=hz.frozen 1;have z2:wr.cell? ⟨w.heap.size,2,none⟩=some (.slice none 0 0):=hz.cell 2;have y2:wr.frozen? ⟨w.heap.size,2,none⟩=false:=hz.frozen 2;have z3:wr.cell? ⟨w.heap.size,3,none⟩=some (.slice none 0 0):=hz.cell 3;have y3:wr.frozen? ⟨w.heap.size,3,none⟩=false:=hz.frozen 3;have z4:wr.cell? ⟨w.heap.size,4,none⟩=some (.int .i64 0):=hz.cell 4;have y4:wr.frozen? ⟨w.heap.size,4,none⟩=false:=hz.frozen 4;have z5:wr.cell? ⟨w.heap.size,5,none⟩=some (.int .i64 0):=hz.cell 5;have y5:wr.frozen? ⟨w.heap.size,5,none⟩=false:=hz.frozen 5;have z6:wr.cell? ⟨w.heap.size,6,none⟩=some (.int .i64 0):=hz.cell 6;have y6:wr.frozen? ⟨w.heap.size,6,none⟩=false:=hz.frozen 6;have z7:wr.cell? ⟨w.heap.size,7,none⟩=some (.int .i64 0):=hz.cell 7;have y7:wr.frozen? ⟨w.heap.size,7,none⟩=false:=hz.frozen 7;clear hz dE;clear lZ oA;go_wp2
       exact bodyPost_ret (v:=.tuple #[.agg az,.bool false]) (aP Tryz.results84 _ _ w.heap.size az rfl _ rfl rfl (hS.out _ _ _ _ _ _ _ _)) rfl ⟨(gF.out _ (pn _ _ _ _ _ _ _ _ _ _)).1,Or.inr ⟨kJ.out,rfl⟩⟩
    ·have uc:j=N:=by omega
     subst uc;cases bad with
     | true=>
       have kJ:Hid (kg f=false):=lZ.out.bad rfl;obtain⟨hz,dE⟩:=iW (w3:=wr) oA.out;have gF:Hid (∀w3,_->_):=dE;have hS:Hid (∀u0 u1 u2 u3 u4 u5 u6 u7,ah _ _ _ _):=fun u0 u1 u2 u3 u4 u5 u6 u7=>wj hz u0 u1 u2 u3 u4 u5 u6 u7;unfold az at hz;have z0:wr.cell? ⟨w.heap.size,0,none⟩=some (.int .i64 0):=hz.cell 0;have y0:wr.frozen? ⟨w.heap.size,0,none⟩=false:=hz.frozen 0;have z1:wr.cell? ⟨w.heap.size,1,none⟩=some (.int .i64 0):=hz.cell 1;have y1:wr.frozen? ⟨w.heap.size,1,none⟩=false:=hz.frozen 1;have z2:wr.cell? ⟨w.heap.size,2,none⟩=some (.slice none 0 0):=hz.cell 2;have y2:wr.frozen? ⟨w.heap.size,2,none⟩=false:=hz.frozen 2;have z3:wr.cell? ⟨w.heap.size,3,none⟩=some (.slice none 0 0):=hz.cell 3;have y3:wr.frozen? ⟨w.heap.size,3,none⟩=false:=hz.frozen 3;have z4:wr.cell? ⟨w.heap.size,4,none⟩=some (.int .i64 0):=hz.cell 4;have y4:wr.frozen? ⟨w.heap.size,4,none⟩=false:=hz.frozen 4;have z5:wr.cell? ⟨w.heap.size,5,none⟩=some (.int .i64 0):=hz.cell 5;have y5:wr.frozen? ⟨w.heap.size,5,none⟩=false:=hz.frozen 5;have z6:wr.cell? ⟨w.heap.size,6,none⟩=some (.int .i64 0):=hz.cell 6;have y6:wr.frozen? ⟨w.heap.size,6,none⟩=false:=hz.frozen 6;have z7:wr.cell? ⟨w.heap.size,7,none⟩=some (.int .i64 0):=hz.cell 7;have y7:wr.frozen? ⟨w.heap.size,7,none⟩=false:=hz.frozen 7;clear hz dE;clear lZ oA;go_wp2
       exact bodyPost_ret (v:=.tuple #[.agg az,.bool false]) (aP Tryz.results84 _ _ w.heap.size az rfl _ rfl rfl (hS.out _ _ _ _ _ _ _ _)) rfl ⟨(gF.out _ (pn _ _ _ _ _ _ _ _ _ _)).1,Or.inr ⟨kJ.out,rfl⟩⟩
     | false=>
       obtain⟨zH,hT⟩:=lZ.out.fin rfl;simp only[]at zH;have Le:Hid (_=_):=zH;have pq:Hid (_=_):=hT;clear zH hT;by_cases An:(p0:Int)<(f.size:Int)
       ·have kJ:Hid (kg f=false):=by rw[Le.out];exact decide_eq_false (by omega)
        obtain⟨hz,dE⟩:=iW (w3:=wr) oA.out;have gF:Hid (∀w3,_->_):=dE;have hS:Hid (∀u0 u1 u2 u3 u4 u5 u6 u7,ah _ _ _ _):=fun u0 u1 u2 u3 u4 u5 u6 u7=>wj hz u0 u1 u2 u3 u4 u5 u6 u7;unfold az at hz;have z0:wr.cell? ⟨w.heap.size,0,none⟩=some (.int .i64 0):=hz.cell 0;have y0:wr.frozen? ⟨w.heap.size,0,none⟩=false:=hz.frozen 0;have z1:wr.cell? ⟨w.heap.size,1,none⟩=some (.int .i64 0):=hz.cell 1;have y1:wr.frozen? ⟨w.heap.size,1,none⟩=false:=hz.frozen 1;have z2:wr.cell? ⟨w.heap.size,2,none⟩=some (.slice none 0 0):=hz.cell 2;have y2:wr.frozen? ⟨w.heap.size,2,none⟩=false:=hz.frozen 2;have z3:wr.cell? ⟨w.heap.size,3,none⟩=some (.slice none 0 0):=hz.cell 3;have y3:wr.frozen? ⟨w.heap.size,3,none⟩=false:=hz.frozen 3;have z4:wr.cell? ⟨w.heap.size,4,none⟩=some (.int .i64 0):=hz.cell 4;have y4:wr.frozen? ⟨w.heap.size,4,none⟩=false:=hz.frozen 4;have z5:wr.cell? ⟨w.heap.size,5,none⟩=some (.int .i64 0):=hz.cell 5;have y5:wr.frozen? ⟨w.heap.size,5,none⟩=false:=hz.frozen 5;have z6:wr.cell? ⟨w.heap.size,6,none⟩=some (.int .i64 0):=hz.cell 6;have y6:wr.frozen? ⟨w.heap.size,6,none⟩=false:=hz.frozen 6;have z7:wr.cell? ⟨w.heap.size,7,none⟩=some (.int .i64 0):=hz.cell 7;have y7:wr.frozen? ⟨w.heap.size,7,none⟩=false:=hz.frozen 7;clear hz dE;clear lZ oA;go_wp2
        exact bodyPost_ret (v:=.tuple #[.agg az,.bool false]) (aP Tryz.results84 _ _ w.heap.size az rfl _ rfl rfl (hS.out _ _ _ _ _ _ _ _)) rfl ⟨(gF.out _ (pn _ _ _ _ _ _ _ _ _ _)).1,Or.inr ⟨kJ.out,rfl⟩⟩
       ·have zo:Hid (kg f=true):=by rw[Le.out];exact decide_eq_true (by omega)
        obtain⟨hz,dE⟩:=iW (w3:=wr) oA.out;have gF:Hid (∀w3,_->_):=dE;have hS:Hid (∀u0 u1 u2 u3 u4 u5 u6 u7,ah _ _ _ _):=fun u0 u1 u2 u3 u4 u5 u6 u7=>wj hz u0 u1 u2 u3 u4 u5 u6 u7;unfold az at hz;have z0:wr.cell? ⟨w.heap.size,0,none⟩=some (.int .i64 0):=hz.cell 0;have y0:wr.frozen? ⟨w.heap.size,0,none⟩=false:=hz.frozen 0;have z1:wr.cell? ⟨w.heap.size,1,none⟩=some (.int .i64 0):=hz.cell 1;have y1:wr.frozen? ⟨w.heap.size,1,none⟩=false:=hz.frozen 1;have z2:wr.cell? ⟨w.heap.size,2,none⟩=some (.slice none 0 0):=hz.cell 2;have y2:wr.frozen? ⟨w.heap.size,2,none⟩=false:=hz.frozen 2;have z3:wr.cell? ⟨w.heap.size,3,none⟩=some (.slice none 0 0):=hz.cell 3;have y3:wr.frozen? ⟨w.heap.size,3,none⟩=false:=hz.frozen 3;have z4:wr.cell? ⟨w.heap.size,4,none⟩=some (.int .i64 0):=hz.cell 4;have y4:wr.frozen? ⟨w.heap.size,4,none⟩=false:=hz.frozen 4;have z5:wr.cell? ⟨w.heap.size,5,none⟩=some (.int .i64 0):=hz.cell 5;have y5:wr.frozen? ⟨w.heap.size,5,none⟩=false:=hz.frozen 5;have z6:wr.cell? ⟨w.heap.size,6,none⟩=some (.int .i64 0):=hz.cell 6;have y6:wr.frozen? ⟨w.heap.size,6,none⟩=false:=hz.frozen 6;have z7:wr.cell? ⟨w.heap.size,7,none⟩=some (.int .i64 0):=hz.cell 7;have y7:wr.frozen? ⟨w.heap.size,7,none⟩=false:=hz.frozen 7;clear hz dE;have x0:wr.cell? ⟨w.heap.size+2,0,none⟩=some (.int .i64 71):=oA.out.vS 0 (by omega);have x2:wr.cell? ⟨w.heap.size+2,2,none⟩=some (rv):=oA.out.vS 2 (by omega);have x3:wr.cell? ⟨w.heap.size+2,3,none⟩=some (sv):=oA.out.vS 3 (by omega);have x4:wr.cell? ⟨w.heap.size+2,4,none⟩=some (.int .i64 p.len):=oA.out.vS 4 (by omega);have x5:wr.cell? ⟨w.heap.size+2,5,none⟩=some (.int .i64 p.nl):=oA.out.vS 5 (by omega);have x6:wr.cell? ⟨w.heap.size+2,6,none⟩=some (.int .i64 p.first):=oA.out.vS 6 (by omega);have x7:wr.cell? ⟨w.heap.size+2,7,none⟩=some (.int .i64 p.last):=oA.out.vS 7 (by omega);have hbn:w.heap.size+2<wr.heap.size:=oA.out.tm.aD.lt;obtain⟨ra,rn,rc,rfl⟩:=bp oA.out.tm.rules;obtain⟨sa,sn,sc,rfl⟩:=bp oA.out.tm.start;have aA:Hid (∀w3,Kept [w.heap.size] wr w3->wu f w w3 (.returned (.tuple #[.agg #[.int .i64 71,.int .i64 (j:Int),.slice ra rn rc,.slice sa sn sc,.int .i64 p.len,.int .i64 p.nl,.int .i64 p.first,.int .i64 p.last],.bool true]))):=fun w3 k=>by
         obtain⟨b3,v3⟩:=gF.out w3 k;rw[pq.out]at v3;refine⟨b3,Or.inl ⟨zo.out,_,_,v3,?_⟩⟩;rw[<-pq.out];rfl
        clear lZ oA gF pq Le;go_wp2
        refine bodyPost_ret (v:=.tuple #[.agg #[.int .i64 71,.int .i64 (j:Int),.slice ra rn rc,.slice sa sn sc,.int .i64 p.len,.int .i64 p.nl,.int .i64 p.first,.int .i64 p.last],.bool true]) (aP Tryz.results84 _ _ w.heap.size _ rfl _ rfl rfl (hS.out _ _ _ _ _ _ _ _)) rfl ?_;exact aA.out _ (pn _ _ _ _ _ _ _ _ _ _)
def pw(B:ByteArray)(p:Nat):Nat:=bt B (p / 8) / 2 ^ (p % 8) % 2
def d'(B:ByteArray)(p:Nat):Nat×Nat:=if p / 8<B.size then (pw B p,p+1) else (0,p)
def bW(B:ByteArray)(p:Nat):Nat->Nat×Nat
 | 0=>(0,p)
 | i+1=>((bW B p i).1+(d' B (bW B p i).2).1*2 ^ i,(d' B (bW B p i).2).2)
structure BR (w:World)(b:Nat)(cs:Array Value)(E:Nat)(B:ByteArray)(p:Nat):Prop where
 aD:ah w b cs E
 bytes:cs[0]?=some (.string B)
 at_:cs[1]?=some (.int .i64 (p:Int))
theorem BR.set{w:World}{b:Nat}{cs:Array Value}{E:Nat}{B:ByteArray}{p:Nat}(h:BR w b cs E B p)(q:Nat):BR (w.setCell ⟨b,1,none⟩ (.int .i64 (q:Int))) b (cs.setIfInBounds 1 (.int .i64 (q:Int))) E B q:=by
 have h1:1<cs.size:=(Array.getElem?_eq_some_iff.1 h.at_).1;exact⟨h.aD.set 1 _,by rw[Array.getElem?_setIfInBounds_ne (by omega)];exact h.bytes,by rw[Array.getElem?_setIfInBounds_self_of_lt h1]⟩
theorem BR.drewN{w:World}{b:Nat}{cs:Array Value}{E:Nat}{B:ByteArray}{p:Nat}(h:BR w b cs E B p)(n:Nat):BR (w.drewN n) b cs E B p:=⟨h.aD,h.bytes,h.at_⟩
theorem BR.same{w:World}{b:Nat}{cs:Array Value}{E:Nat}{B:ByteArray}{p:Nat}(h:BR w b cs E B p):cs.setIfInBounds 1 (.int .i64 (p:Int))=cs:=by
 have h1:=(Array.getElem?_eq_some_iff.1 h.at_);obtain⟨h2,h3⟩:=h1;apply Array.ext
 ·simp
 ·intro i hi1 CI;rw[Array.getElem_setIfInBounds (by simpa using CI)];split
  ·rename_i h;subst h;exact h3.symm
  ·rfl
theorem D5(n:Int)(h₀:0<=n)(h₁:n<2 ^ 62):IntKind.i64.wrap n=n:=by rw[IntKind.wrap_i64];omega
theorem M3(x:Nat)(hx:x<256):bits .and .i64 (x:Int) 1=((x % 2:Nat):Int):=by
 have:=bits_mask .i64 62 (by decide) D5 1 (by decide) (x:Int) (by omega) (by omega);have e:((2:Int) ^ 1-1)=1:=by decide
 rw[e]at this;rw[this];omega
theorem Y7(n c i:Nat)(hn:n<2 ^ i)(hc:c<2)(hi:i<=20):bits .or .i64 (n:Int) ((c*2 ^ i:Nat):Int)=((n+c*2 ^ i:Nat):Int):=by
 have hp:2 ^ i<=2 ^ 20:=Nat.pow_le_pow_right (by omega) hi;have h1:c*2 ^ i<=1*2 ^ i:=Nat.mul_le_mul_right _ (by omega);have h2:(2:Nat) ^ 20=1048576:=by decide
 rw[(bits_nat .i64 62 (by decide) D5 n (c*2 ^ i) (by omega) (by omega)).2];have:=Nat.two_pow_add_eq_or_of_lt hn c;rw[Nat.or_comm,Nat.mul_comm c,<-this,Nat.add_comm]
theorem Pg(w:World)(b:Nat)(cs:Array Value)(E:Nat)(B:ByteArray)(p:Nat)(h:BR w b cs E B p)(hp:p<=1000000)(hB:B.size<=100000):
 Calls Tryz.prog 165 #[.pointer (some ⟨b,0,none⟩)] w fun e w'=>e=.returned (.int .i64 ((d' B p).1:Int))/\BR w' b (cs.setIfInBounds 1 (.int .i64 ((d' B p).2:Int))) E B (d' B p).2/\Kept [b] w w':=by
 have c0:w.cell? ⟨b,0,none⟩=some (.string B):=(h.aD.cell 0).trans h.bytes;have c1:w.cell? ⟨b,1,none⟩=some (.int .i64 (p:Int)):=(h.aD.cell 1).trans h.at_;have f1:w.frozen? ⟨b,1,none⟩=false:=h.aD.frozen 1;have hH:Hid (BR w b cs E B p):=h;obtain⟨q,hq⟩:∃q,q=p / 8:=⟨_,rfl⟩;have hqH:Hid (q=p / 8):=hq;have q0:¬(q:Int)<0:=by omega
 have q2:q<=1000000:=by omega
 by_cases bO:q<B.size
 ·have e:d' B p=(B[q].toNat / 2 ^ (p % 8) % 2,p+1):=by unfold d' pw;rw[if_pos (by omega),<-hq,nh bO]
  rw[e];have g1:¬(B.size:Int)<=(q:Int):=by omega
  have g2:(q:Int)<(B.size:Int):=by omega
  have ediv:(p:Int).tdiv 8=(q:Int):=by rw[hq];exact Int.ofNat_tdiv p 8 |>.symm
  have emod:(p:Int).tmod 8=((p % 8:Nat):Int):=(Int.ofNat_tmod p 8).symm;clear h e hq;go_enter Tryz.func165,Tryz.ntmps165
  go_wp2_with fail
  go_quiet (fail)
  go_wp2
  go_ret;refine⟨bQ ?_,(hH.out.drewN _).set (p+1),((Kept.refl [b] w).drewN _).setCell (p:=⟨b,1,none⟩) (by simp) _⟩;have hb:=B[q].toNat_lt;rw[wrap64_in _ (by omega)];have hle:B[q].toNat / 2 ^ (p % 8)<=B[q].toNat:=Nat.div_le_self _ _;have:=M3 (B[q].toNat / 2 ^ (p % 8)) (by omega);rw[<-this];congr 1
 ·have e:d' B p=(0,p):=by unfold d';rw[if_neg (by omega)]
  rw[e,hH.out.same];have g1:(B.size:Int)<=(q:Int):=by omega
  have ediv:(p:Int).tdiv 8=(q:Int):=by rw[hq];exact Int.ofNat_tdiv p 8 |>.symm
  clear h e hq;go_enter Tryz.func165,Tryz.ntmps165
  go_wp2
  go_ret;exact⟨rfl,hH.out,Kept.refl _ _⟩
theorem Ik(B:ByteArray)(p:Nat):(d' B p).1<2/\p<=(d' B p).2/\(d' B p).2<=p+1:=by
 unfold d' pw;split
 ·simp only[];omega
 ·simp only[];omega
theorem wz(B:ByteArray)(p:Nat):∀i,(bW B p i).1<2 ^ i/\p<=(bW B p i).2/\(bW B p i).2<=p+i
 | 0=>⟨by simp[bW],Nat.le_refl _,Nat.le_refl _⟩
 | i+1=>by
   obtain⟨h1,h2,h3⟩:=wz B p i;obtain⟨g1,g2,g3⟩:=Ik B (bW B p i).2;have h4:(d' B (bW B p i).2).1*2 ^ i<=1*2 ^ i:=Nat.mul_le_mul_right _ (by omega);have h5:(2:Nat) ^ (i+1)=2*2 ^ i:=by rw[Nat.pow_succ];omega
   refine⟨?_,?_,?_⟩
   ·show(bW B p i).1+(d' B (bW B p i).2).1*2 ^ i<_;omega
   ·show p<=(d' B (bW B p i).2).2;omega
   ·show(d' B (bW B p i).2).2<=p+(i+1);omega
theorem set_set{cs:Array Value}{j:Nat}{u v:Value}:(cs.setIfInBounds j u).setIfInBounds j v=cs.setIfInBounds j v:=by
 apply Array.ext
 ·simp
 ·intro i h1 h2;have hi:i<cs.size:=by simpa using h2
  rw[Array.getElem_setIfInBounds (by simpa using hi),Array.getElem_setIfInBounds (by simpa using hi),Array.getElem_setIfInBounds (by simpa using hi)];split <;> rfl
theorem yR(w:World)(b:Nat)(cs:Array Value)(E:Nat)(B:ByteArray)(p:Nat)(h:BR w b cs E B p)(hp:p<=900000)(hB:B.size<=100000)(n:Nat)(hn:n<=20):
 Calls Tryz.prog 133 #[.pointer (some ⟨b,0,none⟩),.int .i64 (n:Int)] w fun e w'=>e=.returned (.int .i64 ((bW B p n).1:Int))/\BR w' b (cs.setIfInBounds 1 (.int .i64 ((bW B p n).2:Int))) E B (bW B p n).2/\Kept [b] w w':=by
 have hx:Hid (∀w cs p,BR w b cs E B p->p<=1000000->Calls _ _ _ w _):=fun w cs p h hp=>Pg w b cs E B p h hp hB;have h0:Hid (BR w b (cs.setIfInBounds 1 (.int .i64 ((bW B p 0).2:Int))) E B (bW B p 0).2):=by
  have e:cs.setIfInBounds 1 (.int .i64 ((bW B p 0).2:Int))=cs:=h.same;show BR _ _ _ _ _ _;rw[e];exact h
 clear h;go_enter Tryz.func133,Tryz.ntmps133
 go_wp2_with fail
 go_loopw [5,6] (fun nv iv wr=>∃q:Nat,iv=.int .i64 (q:Int)/\q<=n/\nv=.int .i64 ((bW B p q).1:Int)/\BR wr b (cs.setIfInBounds 1 (.int .i64 ((bW B p q).2:Int))) E B (bW B p q).2/\Kept [b] w wr) (fun _ iv _=>((n:Int)-intOf iv).toNat)
 case atStart=>exact⟨0,rfl,Nat.zero_le _,rfl,h0.out,Kept.refl _ _⟩
 case round=>
  obtain⟨q,rfl,hq,rfl,hr,hk⟩:=hrel;clear h0;by_cases bO:(q:Int)<(n:Int)
  ·obtain⟨b1,b2,b3⟩:=wz B p q;obtain⟨d1,d2,d3⟩:=Ik B (bW B p q).2;have hc:Hid (Calls _ _ _ _ _):=hx.out _ _ _ hr (by omega);have tL:=Y7 (bW B p q).1 (d' B (bW B p q).2).1 q b1 d1 (by omega);have e1:Hid (bW B p (q+1)=((bW B p q).1+(d' B (bW B p q).2).1*2 ^ q,(d' B (bW B p q).2).2)):=rfl;have kY:2 ^ q<=2 ^ 20:=Nat.pow_le_pow_right (by omega) (by omega);have YV:(2:Nat) ^ 20=1048576:=by decide
   have hm:(d' B (bW B p q).2).1*2 ^ q<=1*2 ^ q:=Nat.mul_le_mul_right _ (by omega);generalize (bW B p q).1=A at *;generalize d' B (bW B p q).2=N at *;obtain⟨c,s2⟩:=N;simp only[]at d1 hm tL;have hw:Hid (wrap64 ((c:Int)*2 ^ q)=((c*2 ^ q:Nat):Int)):=by
    have e:((c:Int)*2 ^ q)=((c*2 ^ q:Nat):Int):=by simp[Int.natCast_mul,Int.natCast_pow]
    show wrap64 _=_;rw[e];exact wrap64_in _ (by omega)
   have horH:Hid (_=_):=tL;clear tL;clear hx hr b2 b3 d2 d3;go_wp2_with fail
   refine hc.out.mono ?_;rintro e w2 ⟨rfl,r2,k2⟩;rw[set_set]at r2;have k2:Hid (Kept _ _ _):=hk.trans k2;have r2:Hid (BR _ _ _ _ _ _):=r2;clear hk hc;go_wp2
   refine⟨⟨q+1,by go_num,by omega,by rw[e1.out,hw.out,horH.out],by rw[e1.out];exact r2.out,k2.out⟩,?_⟩;simp only[intOf];omega
  ·have tw:q=n:=by omega
   subst tw;have hk:Hid (Kept _ _ _):=hk;have hr:Hid (BR _ _ _ _ _ _):=hr;clear hx;go_wp2
   go_ret;exact⟨rfl,hr.out,hk.out⟩
theorem D6(w:World)(b:Nat)(cs:Array Value)(E:Nat)(B:ByteArray)(p:Nat)(h:BR w b cs E B p)(hp:p<=1000000)(hB:B.size<=100000):
 Calls Tryz.prog 132 #[.pointer (some ⟨b,0,none⟩)] w fun e w'=>e=.returned (.int .i64 (8*(B.size:Int)-(p:Int)))/\BR w' b cs E B p/\Kept [] w w':=by
 have c0:w.cell? ⟨b,0,none⟩=some (.string B):=(h.aD.cell 0).trans h.bytes;have c1:w.cell? ⟨b,1,none⟩=some (.int .i64 (p:Int)):=(h.aD.cell 1).trans h.at_;have hH:Hid (BR w b cs E B p):=h;clear h;go_enter Tryz.func132,Tryz.ntmps132
 go_wp2_with fail
 go_quiet (fail)
 go_wp2
 go_ret;exact⟨rfl,hH.out.drewN _,(Kept.refl [] w).drewN _⟩
def tE(B:ByteArray)(p:Nat):Bool:=decide (8*B.size-p<8)&&decide ((bW B p (8*B.size-p)).1=0)
theorem wA(w:World)(b:Nat)(cs:Array Value)(E:Nat)(B:ByteArray)(p:Nat)(h:BR w b cs E B p)(hp:p<=8*B.size)(hB:B.size<=100000):
 Calls Tryz.prog 135 #[.pointer (some ⟨b,0,none⟩)] w fun e w'=>e=.returned (.bool (tE B p))/\(∃q:Nat,BR w' b (cs.setIfInBounds 1 (.int .i64 (q:Int))) E B q)/\Kept [b] w w':=by
 have hl:Hid (Calls _ _ _ _ _):=D6 w b cs E B p h (by omega) hB;obtain⟨L,hL⟩:∃L,L=8*B.size-p:=⟨_,rfl⟩;have e:8*(B.size:Int)-(p:Int)=(L:Int):=by omega
 rw[e]at hl;have hs:=h.same;unfold tE;rw[<-hL];have hn:Hid (L<=20->∀w',BR w' b cs E B p->Calls _ _ _ w' _):=fun h20 w' h'=>yR w' b cs E B p h' (by omega) hB L h20;clear h e hL;by_cases h8:(8:Int)<=(L:Int)
 ·rw[decide_eq_false (show ¬L<8 by omega)];have qX:Hid (_=_):=hs;clear hs hn;go_enter Tryz.func135,Tryz.ntmps135
  go_wp2_with fail
  refine hl.out.mono ?_;rintro e w2 ⟨rfl,r2,k2⟩;have hR:Hid (BR _ _ _ _ _ _):=r2;have hK:Hid (Kept [b] w w2):=k2.mono (by simp);clear r2 k2 hl;go_wp2
  go_ret;exact⟨rfl,⟨p,by rw[qX.out];exact hR.out⟩,hK.out⟩
 ·rw[decide_eq_true (show L<8 by omega),Bool.true_and];have uU:Hid (∀w',_->Calls _ _ _ w' _):=hn.out (by omega);clear hs hn;obtain⟨v,hv⟩:∃v,v=(bW B p L).1:=⟨_,rfl⟩;rw[<-hv]at uU ⊢;clear hv;by_cases V':v=0
  ·subst V';go_enter Tryz.func135,Tryz.ntmps135
   go_wp2_with fail
   refine hl.out.mono ?_;rintro e w2 ⟨rfl,r2,k2⟩;have hc:Hid (Calls _ _ _ _ _):=uU.out _ r2;have k2:Hid (Kept _ _ _):=k2.mono (S':=[b]) (by simp);clear r2 hl uU;go_wp2_with fail
   refine hc.out.mono ?_;rintro e w3 ⟨rfl,r3,k3⟩;have hR:Hid (BR _ _ _ _ _ _):=r3;have hK:Hid (Kept [b] w w3):=k2.out.trans k3;clear r3 k3 hc k2;go_wp2
   go_ret;exact⟨rfl,⟨_,hR.out⟩,hK.out⟩
  ·have e0:((v:Int)==0)=false:=beq_eq_false_iff_ne.2 (by omega);rw[decide_eq_false V'];clear V';go_enter Tryz.func135,Tryz.ntmps135
   go_wp2_with fail
   refine hl.out.mono ?_;rintro e w2 ⟨rfl,r2,k2⟩;have hc:Hid (Calls _ _ _ _ _):=uU.out _ r2;have k2:Hid (Kept _ _ _):=k2.mono (S':=[b]) (by simp);clear r2 hl uU;go_wp2_with fail
   refine hc.out.mono ?_;rintro e w3 ⟨rfl,r3,k3⟩;have hR:Hid (BR _ _ _ _ _ _):=r3;have hK:Hid (Kept [b] w w3):=k2.out.trans k3;clear r3 k3 hc k2;go_wp2
   go_ret;exact⟨rfl,⟨_,hR.out⟩,hK.out⟩
def l6(f m:Nat):Nat:=if f<512\/m<=9 then 9 else if f<1024\/m<=10 then 10 else if f<2048\/m<=11 then 11 else 12
theorem wB(f m:Nat):9<=l6 f m/\l6 f m<=12:=by
 unfold l6;split
 ·omega
 ·split
  ·omega
  ·split <;> omega
theorem Il(f m:Nat)(hf:f<=1000000)(hm:m<=12)(w:World):
 Calls Tryz.prog 120 #[.int .i64 (f:Int),.int .i64 (m:Int)] w fun e w'=>e=.returned (.int .i64 (l6 f m:Int))/\w'=w:=by
 go_enter Tryz.func120,Tryz.ntmps120
 go_wp2_with fail
 go_loop [5] (fun iv=>∃q:Nat,iv=.int .i64 (q:Int)/\9<=q/\(q=9\/q<=m)/\∀j,9<=j->j<q->2 ^ j<=f) (fun iv=>((m:Int)-intOf iv).toNat)
 case atStart=>exact⟨9,rfl,Nat.le_refl _,Or.inl rfl,fun j h1 h2=>by omega⟩
 case round=>
  obtain⟨q,rfl,h9,hqm,iA⟩:=hrel;have cP:Hid (∀j,_):=iA;clear iA;by_cases bO:(q:Int)<(m:Int)
  ·have hq:q=9\/q=10\/q=11:=by omega
   by_cases Im:2 ^ q<=f
   ·have hn:Hid (∀j,9<=j->j<q+1->2 ^ j<=f):=fun j h1 h2=>by
     by_cases hj:j=q
     ·subst hj;exact Im
     ·exact cP.out j h1 (by omega)
    clear cP;have Y8:Hid (q+1<=m):=by show q+1<=m;omega
    rcases hq with rfl|rfl|rfl <;>
    ·simp only[Nat.reducePow]at Im;have hz:¬(f:Int)<_:=Int.not_lt.2 (Int.ofNat_le.2 Im);go_wp2
     refine⟨⟨_,rfl,by decide,Or.inr Y8.out,hn.out⟩,?_⟩;simp only[intOf];omega
   ·have hw:Hid (l6 f m=q):=by
     have a9:=cP.out 9 (by omega);have Vn:=cP.out 10 (by omega);show l6 f m=q;unfold l6;rcases hq with rfl|rfl|rfl
     ·rw[if_pos (by simp at Im;omega)]
     ·have:=a9 (by omega);simp at Im this;rw[if_neg (by omega),if_pos (by omega)]
     ·have t1:=a9 (by omega);have t2:=Vn (by omega);simp at Im t1 t2;rw[if_neg (by omega),if_neg (by omega),if_pos (by omega)]
    clear cP;rcases hq with rfl|rfl|rfl <;>
    ·simp only[Nat.reducePow]at Im;have hz:(f:Int)<_:=Int.ofNat_lt.2 (Nat.lt_of_not_le Im);go_wp2
     go_ret;exact⟨bQ (by rw[hw.out];rfl),rfl⟩
  ·have hw:Hid (l6 f m=q):=by
    have a9:=cP.out 9 (by omega);have Vn:=cP.out 10 (by omega);have a11:=cP.out 11 (by omega);show l6 f m=q;have hq:q=9\/q=10\/q=11\/q=12:=by omega
    unfold l6;rcases hq with rfl|rfl|rfl|rfl
    ·rw[if_pos (by omega)]
    ·have:=a9 (by omega);simp at this;rw[if_neg (by omega),if_pos (by omega)]
    ·have t1:=a9 (by omega);have t2:=Vn (by omega);simp at t1 t2;rw[if_neg (by omega),if_neg (by omega),if_pos (by omega)]
    ·have t1:=a9 (by omega);have t2:=Vn (by omega);have t3:=a11 (by omega);simp at t1 t2 t3;rw[if_neg (by omega),if_neg (by omega),if_neg (by omega)]
   clear cP;go_wp2
   go_ret;exact⟨bQ (by rw[hw.out]),rfl⟩
structure CD where
 B:ByteArray
 p:Nat
 most:Nat
 gone:Nat:=0
 ahead:Option Nat:=none
 bad:Bool:=false
def qi:Option Nat->Int
 | none=>-1
 | some a=>(a:Int)
def CD.pre(c:CD):Array Value:=#[.string c.B,.int .i64 (c.p:Int),.int .i64 (c.most:Int)]
def CD.post(c:CD):Array Value:=#[.int .i64 (c.gone:Int),.int .i64 (qi c.ahead),.bool c.bad]
def CM(w:World)(b:Nat)(c:CD)(Bd:Nat)(t:TT)(rv sv:Value):Prop:=TM w b c.pre c.post 212 Bd t rv sv
section
variable {w w':World}{b Bd:Nat}{c:CD}{t:TT}{rv sv:Value}
theorem CM.all(h:CM w b c Bd t rv sv):ah w b #[.string c.B,.int .i64 (c.p:Int),.int .i64 (c.most:Int),.int .i64 t.kind,.int .i64 t.syms,rv,sv,.int .i64 t.whole.len,.int .i64 t.whole.nl,.int .i64 t.whole.first,.int .i64 t.whole.last,.int .i64 (c.gone:Int),.int .i64 (qi c.ahead),.bool c.bad] 212:=h.aD
theorem CM.Be{c':CD}{t':TT}(h:CM w b c Bd t rv sv)(hb:ah w' b #[.string c'.B,.int .i64 (c'.p:Int),.int .i64 (c'.most:Int),.int .i64 t'.kind,.int .i64 t'.syms,rv,sv,.int .i64 t'.whole.len,.int .i64 t'.whole.nl,.int .i64 t'.whole.first,.int .i64 t'.whole.last,.int .i64 (c'.gone:Int),.int .i64 (qi c'.ahead),.bool c'.bad] 212)
 (k:Kept [b] w w') (hr:t'.rules=t.rules) (hs:t'.start=t.start) (hw:ez t'.whole):CM w' b c' Bd t' rv sv:=
 ⟨hb,h.lt,Nat.le_trans h.up k.size,by rw[hr];exact aQ h.rules k (fun g hg hc=>by simp at hc;have:=(h.rules.lt g hg).1;have:=h.lt;omega),by rw[hs];exact aQ h.start k (fun g hg hc=>by simp at hc;have:=(h.start.lt g hg).1;have:=h.lt;omega),by rw[hr];exact h.small,hw⟩
theorem CM.gW(h:CM w b c Bd t rv sv)(k:Kept [] w w'):CM w' b c Bd t rv sv:=TM.kept h k
theorem CM.bits(h:CM w b c Bd t rv sv):BR w b (c.pre++t.cells rv sv++c.post) 212 c.B c.p:=⟨h.aD,rfl,rfl⟩
theorem CM.Lf(h:CM w b c Bd t rv sv){q:Nat}(r:BR w' b ((c.pre++t.cells rv sv++c.post).setIfInBounds 1 (.int .i64 (q:Int))) 212 c.B q)(k:Kept [b] w w'):CM w' b { c with p:=q} Bd t rv sv:=
 h.Be r.aD k rfl rfl h.whole
end
def dt(t:TT)(c:CD):Nat:=257+t.rules.length-c.gone
def bN(gone code:Nat):Nat:=if code<256 then code else gone+code-1
theorem D7{w:World}{b Bd:Nat}{c:CD}{t:TT}{rv sv:Value}(h:CM w b c Bd t rv sv)(hg:c.gone<=t.rules.length)(hl:t.rules.length<=100000):
 Calls Tryz.prog 164 #[.pointer (some ⟨b,0,none⟩)] w fun e w'=>e=.returned (.int .i64 (dt t c:Int))/\Kept [] w w':=by
 have c5:w.cell? ⟨b,5,none⟩=some rv:=h.all.cell 5;have Gt:w.cell? ⟨b,11,none⟩=some (.int .i64 (c.gone:Int)):=h.all.cell 11;have hv:∃a cap,rv=.slice a t.rules.length cap:=by
  rcases h.rules.2 with⟨h3,h4⟩|⟨g,cap,_,h3,_⟩
  ·exact⟨none,0,by rw[h3,h4]⟩
  ·exact⟨_,cap,h3⟩
 obtain⟨a,cap,rfl⟩:=hv;have e:Hid ((dt t c:Int)=257+(t.rules.length:Int)-(c.gone:Int)):=by show _=_;unfold dt;omega
 generalize t.rules.length=n at *;clear h;go_enter Tryz.func164,Tryz.ntmps164
 go_wp2_with fail
 go_quiet (fail)
 go_wp2
 go_ret;exact⟨bQ (by rw[e.out]),(Kept.refl [] w).drewN _⟩
theorem Bf{w:World}{b Bd:Nat}{c:CD}{t:TT}{rv sv:Value}(h:CM w b c Bd t rv sv)(hg:c.gone<=t.rules.length)(hl:t.rules.length<=100000)(hm:c.most<=12):
 Calls Tryz.prog 131 #[.pointer (some ⟨b,0,none⟩)] w fun e w'=>e=.returned (.int .i64 (l6 (dt t c) c.most:Int))/\Kept [] w w':=by
 have hf:Hid (Calls _ _ _ _ _):=D7 h hg hl;have hF:dt t c<=1000000:=by unfold dt;omega
 have hw:Hid (∀w,Calls _ _ _ w _):=fun w=>Il (dt t c) c.most hF hm w;have hH:Hid (CM _ _ _ _ _ _ _):=h;clear h;generalize dt t c=F at *;go_enter Tryz.func131,Tryz.ntmps131
 go_wp2_with fail
 refine hf.out.mono ?_;rintro e w1 ⟨rfl,k1⟩;have c2:w1.cell? ⟨b,2,none⟩=some (.int .i64 (c.most:Int)):=(hH.out.gW k1).all.cell 2;have k1:Hid (Kept _ _ _):=k1;go_wp2_with fail
 refine(hw.out _).mono ?_;rintro e w2 ⟨rfl,rfl⟩;clear hf hw hH;go_wp2
 go_ret;exact⟨rfl,k1.out⟩
theorem lh{w:World}{b Bd:Nat}{c:CD}{t:TT}{rv sv:Value}(h:CM w b c Bd t rv sv)(code:Nat)(hc:code<=100000)(hg:c.gone<=100000):
 Calls Tryz.prog 167 #[.pointer (some ⟨b,0,none⟩),.int .i64 (code:Int)] w fun e w'=>e=.returned (.int .i64 (bN c.gone code:Int))/\w'=w:=by
 have Gt:w.cell? ⟨b,11,none⟩=some (.int .i64 (c.gone:Int)):=h.all.cell 11;clear h;unfold bN;by_cases bO:(code:Int)<256
 ·rw[if_pos (by omega)];go_enter Tryz.func167,Tryz.ntmps167
  go_wp2
  go_ret;exact⟨rfl,rfl⟩
 ·rw[if_neg (by omega)];have e:Hid (((c.gone+code-1:Nat):Int)=256+(c.gone:Int)+(code:Int)-257):=by show _=_;omega
  go_enter Tryz.func167,Tryz.ntmps167
  go_wp2
  go_ret;exact⟨bQ (by rw[e.out]),rfl⟩
theorem Io(p1 p2 p3 p4:Value)(w:World):(Instr.field 84 (.agg #[p1,p2,p3,p4]) 2).run Tryz.prog w=.ok p3 w:=by kernel_rfl
def ki(t:TT)(gone a code F:Nat):Nat:=(partAt t.rules (if code=F then a else bN gone code)).first
theorem Bg{w:World}{b Bd:Nat}{c:CD}{t:TT}{rv sv:Value}(h:CM w b c Bd t rv sv)(a code F:Nat)(ha:c.ahead=some a)(ha2:a<=90000)(hc:code<=5000)(hg:c.gone<=50000)(hl:t.rules.length<=100000):
 Calls Tryz.prog 166 #[.pointer (some ⟨b,0,none⟩),.int .i64 (code:Int),.int .i64 (F:Int)] w fun e w'=>e=.returned (.int .i64 (ki t c.gone a code F:Int))/\Kept [] w w':=by
 have VQ:w.cell? ⟨b,12,none⟩=some (.int .i64 (a:Int)):=by have:=h.all.cell 12;rw[ha]at this;exact this
 have pU:b<w.heap.size:=h.all.lt;have CB:Hid (Calls _ _ _ _ _):=lh h code (by omega) (by omega);have KJ:bN c.gone code<=100000:=by unfold bN;split <;> omega
 unfold ki;have hp:Hid (∀s,s<=100000->Calls _ _ _ _ _):=fun s hs=>wi h (o:=3) rfl s hs hl;have hff:=Io;clear h ha;by_cases hcf:code=F
 ·rw[if_pos hcf];subst hcf;have kY:Hid (Calls _ _ _ _ _):=hp.out a (by omega);clear hp CB;generalize partAt t.rules a=x at *;obtain⟨x1,x2,x3,x4⟩:=x;unfold PT.val PT.arr at kY;simp only[]at kY ⊢;go_enter Tryz.func166,Tryz.ntmps166
  go_wp2_with fail
  refine kY.out.mono ?_;rintro e w1 ⟨rfl,k1⟩;have k1:Hid (Kept _ _ _):=k1;clear kY;go_wp2
  go_ret;exact⟨rfl,k1.out⟩
 ·rw[if_neg hcf];have fx:((code:Int) != (F:Int))=true:=by simp;omega
  have kY:Hid (Calls _ _ _ _ _):=hp.out (bN c.gone code) (by omega);clear hp hcf;generalize bN c.gone code=S at *;generalize partAt t.rules S=x at *;obtain⟨x1,x2,x3,x4⟩:=x;unfold PT.val PT.arr at kY;simp only[]at kY ⊢;go_enter Tryz.func166,Tryz.ntmps166
  go_wp2_with fail
  refine CB.out.mono ?_;rintro e w1 ⟨rfl,rfl⟩;go_wp2_with fail
  refine kY.out.mono ?_;rintro e w1 ⟨rfl,k1⟩;have k1:Hid (Kept _ _ _):=k1;clear kY CB;go_wp2
  go_ret;exact⟨rfl,k1.out⟩
end Go.Proofs.YtgifhgnccmnbiabGreatDoor
