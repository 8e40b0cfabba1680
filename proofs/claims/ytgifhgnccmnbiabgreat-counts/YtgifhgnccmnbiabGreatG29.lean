/- Package packed: files of codes, read. -/
import Derived.Test.YtgifhgnccmnbiabGreatG28
import Derived.Deep.DeepCutAuto
set_option linter.unusedVariables false
set_option linter.unusedSimpArgs false
set_option maxHeartbeats 4000000
set_option maxRecDepth 100000
namespace Go.Proofs.YtgifhgnccmnbiabGreat
open Go.RowKit Go.IntWalk
structure CodesOut (f:ByteArray) (w w':World) (e:Ending):Prop where
 below:Below w.heap.size w w'
 out:(zMost f=false∧e=.returned (.tuple #[.agg ztext,.bool false])) ∨
  (zMost f=true∧∃n,ZRun f n∧((zOk (zit (z0 f) n)=true∧∃rv sv,TVal w' w.heap.size (zit (z0 f) n).2 rv sv∧e=.returned (.tuple #[.agg ((zit (z0 f) n).2.cells rv sv),.bool true]))∨(zOk (zit (z0 f) n)=false∧e=.returned (.tuple #[.agg ztext,.bool false]))))
structure ZM (w0 w:World) (s:CD×TT) (rv sv:Value):Prop where
 cm:CM w (w0.heap.size+1) s.1 (w0.heap.size+2) s.2 rv sv
 res:Blk w w0.heap.size ztext 61
 below:Below w0.heap.size w0 w
theorem ZM.text {w0 w w':World} {s s':CD×TT} {rv sv rv' sv':Value} (h:ZM w0 w s rv sv) (m:CM w' (w0.heap.size+1) s'.1 (w0.heap.size+2) s'.2 rv' sv') (k:Fra (w0.heap.size+2) (w0.heap.size+1) w w'):ZM w0 w' s' rv' sv':=
 ⟨m,k.blk h.res (by omega) (by omega),h.below.trans (k.below (by omega) (by omega))⟩
theorem ZM.kept {w0 w w':World} {s:CD×TT} {rv sv:Value} (h:ZM w0 w s rv sv) (k:Kept [] w w'):ZM w0 w' s rv sv:=h.text (h.cm.keptW k) (Fra.of_kept k h.cm.up)
theorem ZM.fin {w0 w:World} {s:CD×TT} {rv sv:Value} (h:ZM w0 w s rv sv):∀w3,Kept [w0.heap.size] w w3→Below w0.heap.size w0 w3∧TVal w3 w0.heap.size s.2 rv sv:=fun w3 k=>
 ⟨h.below.trans (k.below (by have:=h.res.lt;omega) (by simp)),((TM.val h.cm).kept k (fun g hg=>by simp at hg;omega)).mono (by omega)⟩
def pAt (w:World) (b:Nat):Nat:=match w.cell? ⟨b,4,none⟩ with
 | some (.int _ p)=>(40000-p).toNat
 | _=>0
theorem pAt_of {w:World} {b:Nat} {p:Nat} (h:w.cell? ⟨b,4,none⟩=some (.int .i64 (p:Int))):pAt w b=(40000-(p:Int)).toNat:=by unfold pAt;rw [h]
theorem most_zit {f:ByteArray} {n:Nat} (h:∀i,i<n→zgo (zit (z0 f) i)=true):(zit (z0 f) n).1.most=bt f 2:=(zit_inv h).most
theorem take_all {w:World} {b Bd n:Nat} {B:ByteArray} {m:Nat} {s:CD×TT} {rv sv:Value} (hi:ZI B m n s) (hm9:9≤m) (hm12:m≤12) (hB:B.size≤4000) (hp:s.1.p+zwide s≤8*s.1.B.size)
 (h:CM w b { s.1 with p:=(numB s.1.B s.1.p (zwide s)).2 } Bd s.2 rv sv):
 Calls Tryz.prog 64 #[.pointer (some ⟨b,0,none⟩),.int .i64 ((numB s.1.B s.1.p (zwide s)).1:Int)] w fun e w'=>e=.returned (.tuple #[])∧TakeOut w w' b Bd (zstep s):=by
 have h1:=hi.bytes;have h2:=hi.most;have h3:=hi.p;have h4:=hi.syms;have h5:=hi.rules;have h6:=hi.start;have h7:=hi.gone;have h8:=hi.ahead;have h9:=hi.pb
 have hw:=widP_bd (freeN s.2 s.1) s.1.most
 have hlt:(numB s.1.B s.1.p (zwide s)).1<2 ^ 12:=Nat.lt_of_lt_of_le (numB_bd _ _ _).1 (Nat.pow_le_pow_right (by omega) hw.2)
 have h12:(2:Nat) ^ 12=4096:=by decide
 have hn:n≤3600:=by omega
 unfold zstep
 by_cases hc:(numB s.1.B s.1.p (zwide s)).1=256
 · have:=take_clear h (by omega)
   rw [hc]
   unfold takeC
   rw [if_pos rfl]
   exact this
 · exact ctake_any h _ (by omega) (by omega) hc (by show 9≤s.1.most;omega) (by show s.1.most≤12;omega) h7 (by omega) (by omega) (fun a ha=>by have:=h8 a ha;omega) (fun a F=>hi.fb a _ F)
theorem readCodes_any (f:ByteArray) (hf:f.size≤4000) (w:World):
 Calls Tryz.prog 31 #[.string f] w fun e w'=>CodesOut f w w' e:=by
 have hz0:Blk (w.alloc (.cells ztext 61)) w.heap.size ztext 61:=Blk.new w _ _
 have hBl0:Hid (Below w.heap.size w (w.alloc (.cells ztext 61))):=(Below.refl w.heap.size w).alloc (Nat.le_refl _) _
 by_cases h3:(f.size:Int)<3
 · have hm:Hid (zMost f=false):=by show zMost f=false;unfold zMost;rw [decide_eq_false (show ¬ 3≤f.size by omega)];rfl
   clear hz0
   go_enter Tryz.func31,Tryz.ntmps31
   go_wp2
   exact bodyPost_ret (v:=.tuple #[.agg ztext,.bool false]) (results_text Tryz.results31 _ _ w.heap.size ztext rfl _ rfl rfl (Blk.new w _ _)) rfl ⟨hBl0.out,Or.inl ⟨hm.out,rfl⟩⟩
 · have h3':3≤f.size:=by omega
   have h3i:(3:Int)≤(f.size:Int):=by omega
   have h2i:(2:Int)<(f.size:Int):=by omega
   obtain ⟨B,hB⟩:∃B,B=f.extract 3 f.size:=⟨_,rfl⟩
   obtain ⟨mo,hmo⟩:∃mo,mo=bt f 2:=⟨_,rfl⟩
   have hmo2:f[2].toNat=mo:=by rw [hmo,bt_lt (by omega)]
   have hBe:=hB.symm
   have hm255:mo<256:=by rw [←hmo2];exact f[2].toNat_lt
   have e3:IntKind.i64.wrap (mo:Int)=(mo:Int):=by rw [IntKind.wrap_i64];omega
   have hBH:Hid (B=_):=hB
   have hmoH:Hid (mo=_):=hmo
   clear hB hmo
   go_enter Tryz.func31,Tryz.ntmps31
   go_upto_region 3 with fail
   go_cut [4] (fun s4 wx=>s4=.pointer (some ⟨w.heap.size+1,0,none⟩)∧wx=((w.alloc (.cells ztext 61)).alloc (.cells #[.string B,.int .i64 0,.int .i64 (mo:Int),.int .i64 0,.int .i64 0,.slice none 0 0,.slice none 0 0,.int .i64 0,.int .i64 0,.int .i64 0,.int .i64 0,.int .i64 0,.int .i64 (-1),.bool false] 153)).drew)
   case first=>
    go_region_law (fail)
    all_goals
     go_wp2_with fail
     go_meet
     exact ⟨rfl,rfl⟩
   case rest=>
    obtain ⟨rfl,rfl⟩:=hcut
    have hI0:ZM w ((w.alloc (.cells ztext 61)).alloc (.cells #[.string B,.int .i64 0,.int .i64 (mo:Int),.int .i64 90,.int .i64 0,.slice none 0 0,.slice none 0 0,.int .i64 0,.int .i64 0,.int .i64 0,.int .i64 0,.int .i64 0,.int .i64 (-1),.bool false] 153)).drew (z0 f) (.slice none 0 0) (.slice none 0 0):=by
     refine ⟨⟨?_,by omega,by show _≤((w.alloc _).alloc _).heap.size;simp,World.ownsRow_nil _ _ _ 6,World.ownsRow_nil _ _ _ 1,(fun x hx=>nomatch hx),⟨by show 0≤_;omega,by show 0≤_;omega⟩⟩,hz0.alloc _,?_⟩
     · have:=Blk.new (w.alloc (.cells ztext 61)) #[.string B,.int .i64 0,.int .i64 (mo:Int),.int .i64 90,.int .i64 0,.slice none 0 0,.slice none 0 0,.int .i64 0,.int .i64 0,.int .i64 0,.int .i64 0,.int .i64 0,.int .i64 (-1),.bool false] 153
       have e:(w.alloc (.cells ztext 61)).heap.size=w.heap.size+1:=by simp
       rw [e] at this
       rw [hBH.out,hmoH.out] at this ⊢
       exact this
     · exact (hBl0.out.alloc (by simp) _).drew
    have hBs:B.size≤4000:=by rw [hBH.out];simp;omega
    by_cases hmo:9≤mo∧mo≤12
    · obtain ⟨hm9,hm12⟩:=hmo
      have hmost:Hid (zMost f=true):=by show zMost f=true;unfold zMost;rw [←hmoH.out,decide_eq_true h3',decide_eq_true hm9,decide_eq_true hm12];rfl
      have n1:¬(mo:Int)<9:=by omega
      have n2:¬(12:Int)<(mo:Int):=by omega
      have hw0:Hid (Calls _ _ _ _ _):=cwidth_any hI0.cm (Nat.zero_le _) (Nat.zero_le _) (by show bt f 2≤12;rw [←hmoH.out];exact hm12)
      have hI0H:Hid (ZM _ _ _ _ _):=hI0
      unfold ztext at hw0
      clear hI0 hz0 hmo2 hBe
      go_wp2_with fail
      refine hw0.out.mono ?_
      rintro e w1 ⟨rfl,k1⟩
      have hI1:Hid (ZM _ _ _ _ _):=hI0H.out.kept k1
      clear hw0 hI0H k1
      go_wp2_with fail
      go_loopw [5] (fun v wr=>∃n:Nat,v=.int .i64 (zwide (zit (z0 f) n):Int)∧(∀i,i<n→zgo (zit (z0 f) i)=true)∧∃rv sv,ZM w wr (zit (z0 f) n) rv sv) (fun _ wr=>pAt wr (w.heap.size+1))
      case atStart=>exact ⟨0,rfl,fun i hi=>by omega,_,_,hI1.out⟩
      case round=>
       obtain ⟨n,rfl,hall,rv,sv,hm⟩:=hrel
       clear hI1
       have hI:=zit_inv hall
       rw [←hBH.out,←hmoH.out] at hI
       have hallH:Hid (∀i,_):=hall
       have hmost2:=most_zit hall
       clear hall
       rw [←hmoH.out] at hmost2
       have hsd:zit (z0 f) (n+1)=zstep (zit (z0 f) n):=rfl
       have hsdH:Hid (_=_):=hsd
       have hoff:Hid (zgo (zit (z0 f) n)=false→ZRun f n):=fun h=>⟨hallH.out,h⟩
       have hokd:Hid (zOk (zit (z0 f) n)=(!(zit (z0 f) n).1.bad&&endB (zit (z0 f) n).1.B (zit (z0 f) n).1.p)):=rfl
       have hgod:Hid (zgo (zit (z0 f) n)=(!(zit (z0 f) n).1.bad&&decide ((zit (z0 f) n).1.p+zwide (zit (z0 f) n)≤8*(zit (z0 f) n).1.B.size))):=rfl
       clear hsd
       obtain ⟨s,hs⟩:∃s,s=zit (z0 f) n:=⟨_,rfl⟩
       rw [←hs] at hI hmost2 hm hsdH hoff hokd hgod ⊢
       have hsH:Hid (s=_):=hs
       clear hs
       have c1:wr.cell? ⟨w.heap.size+1,4,none⟩=some (.int .i64 (s.2.syms:Int)):=hm.cm.all.cell 4
       have b13':wr.cell? ⟨w.heap.size+1,13,none⟩=some (.bool s.1.bad):=hm.cm.all.cell 13
       have hpm:=pAt_of c1
       have hpmH:Hid (_=_):=hpm
       clear hpm c1
       have hp8:=hI.pb
       have hwd:=widP_bd (freeN s.2 s.1) s.1.most
       have hwz:zwide s=widP (freeN s.2 s.1) s.1.most:=rfl
       have hwzH:Hid (_=_):=hwz
       cases hbad:s.1.bad with
       | true=>
         rw [hbad] at b13'
         have hbadE:s.1.bad=true:=hbad
         have hrun:Hid (ZRun f n):=hoff.out (by rw [hgod.out,hbad];rfl)
         have hno:Hid (zOk (zit (z0 f) n)=false):=by rw [←hsH.out,hokd.out,hbad];rfl
         clear hoff hokd hgod hwz hwd
         have hrd:Hid (Calls _ _ _ _ _):=breadEnd_any wr (w.heap.size+1) _ _ _ _ hm.cm.bits (by rw [hI.bytes];exact hI.pb) (by rw [hI.bytes];omega)
         have hmH:Hid (ZM _ _ _ _ _):=hm
         clear hm
         go_wp2_with fail
         refine hrd.out.mono ?_
         rintro e w7 ⟨rfl,⟨q7,r7⟩,k7⟩
         have hm7:ZM w w7 ({ s.1 with p:=q7 },s.2) rv sv:=hmH.out.text (s':=({ s.1 with p:=q7 },s.2)) (hmH.out.cm.readOn r7 k7) (Fra.kept k7 hmH.out.cm.up)
         have b13:w7.cell? ⟨w.heap.size+1,13,none⟩=some (.bool true):=by have:=hm7.cm.all.cell 13;rw [hbadE] at this;exact this
         clear hrd hmH r7 k7
         have hS:Hid (∀u0 u1 u2 u3 u4 u5 u6 u7,Blk _ _ _ _):=fun u0 u1 u2 u3 u4 u5 u6 u7=>set8 hm7.res u0 u1 u2 u3 u4 u5 u6 u7
         have hendH:Hid (∀w3,_→_):=hm7.fin
         have hz:=hm7.res
         unfold ztext at hz
         have z0:w7.cell? ⟨w.heap.size,0,none⟩=some (.int .i64 0):=hz.cell 0
         have y0:w7.frozen? ⟨w.heap.size,0,none⟩=false:=hz.frozen 0
         have z1:w7.cell? ⟨w.heap.size,1,none⟩=some (.int .i64 0):=hz.cell 1
         have y1:w7.frozen? ⟨w.heap.size,1,none⟩=false:=hz.frozen 1
         have z2:w7.cell? ⟨w.heap.size,2,none⟩=some (.slice none 0 0):=hz.cell 2
         have y2:w7.frozen? ⟨w.heap.size,2,none⟩=false:=hz.frozen 2
         have z3:w7.cell? ⟨w.heap.size,3,none⟩=some (.slice none 0 0):=hz.cell 3
         have y3:w7.frozen? ⟨w.heap.size,3,none⟩=false:=hz.frozen 3
         have z4:w7.cell? ⟨w.heap.size,4,none⟩=some (.int .i64 0):=hz.cell 4
         have y4:w7.frozen? ⟨w.heap.size,4,none⟩=false:=hz.frozen 4
         have z5:w7.cell? ⟨w.heap.size,5,none⟩=some (.int .i64 0):=hz.cell 5
         have y5:w7.frozen? ⟨w.heap.size,5,none⟩=false:=hz.frozen 5
         have z6:w7.cell? ⟨w.heap.size,6,none⟩=some (.int .i64 0):=hz.cell 6
         have y6:w7.frozen? ⟨w.heap.size,6,none⟩=false:=hz.frozen 6
         have z7:w7.cell? ⟨w.heap.size,7,none⟩=some (.int .i64 0):=hz.cell 7
         have y7:w7.frozen? ⟨w.heap.size,7,none⟩=false:=hz.frozen 7
         clear hz
         clear hm7
         go_wp2
         exact bodyPost_ret (v:=.tuple #[.agg ztext,.bool false]) (results_text Tryz.results31 _ _ w.heap.size ztext rfl _ rfl rfl (hS.out _ _ _ _ _ _ _ _)) rfl ⟨(hendH.out _ (kept8 _ _ _ _ _ _ _ _ _ _)).1,Or.inr ⟨hmost.out,n,hrun.out,Or.inr ⟨hno.out,rfl⟩⟩⟩
       | false=>
         rw [hbad] at b13'
         have hbadE:s.1.bad=false:=hbad
         have hlf:Hid (Calls _ _ _ _ _):=bleft_any wr (w.heap.size+1) _ _ _ _ hm.cm.bits (by omega) (by rw [hI.bytes];omega)
         rw [hI.bytes] at hlf
         by_cases hle:s.1.p+zwide s≤8*B.size
         · have hgo:zgo s=true:=by rw [hgod.out,hbad];rw [Bool.not_false,Bool.true_and];exact decide_eq_true (by rw [hI.bytes];exact hle)
           have hWle:((zwide s:Nat):Int)≤8*(B.size:Int)-(s.1.p:Int):=by omega
           have hW20:zwide s≤20:=by omega
           have hIs:=hI.step hgo
           have hsy1:=hI.syms
           have hsy2:=hIs.syms
           have hn36:n≤3600:=by have:=hI.p;omega
           have hmH:Hid (ZM _ _ _ _ _):=hm
           have hIH:Hid (ZI _ _ _ _):=hI
           have hIsH:Hid (ZI _ _ _ _):=hIs
           have hgoH:Hid (_=_):=hgo
           clear hm hI hIs hgo hwz hoff hokd hgod hbadE
           go_wp2_with fail
           refine hlf.out.mono ?_
           rintro e w2 ⟨rfl,r2,k2⟩
           have hm2:=hmH.out.kept k2
           have hnu:Hid (Calls _ _ _ _ _):=bnumber_any w2 (w.heap.size+1) _ _ _ _ hm2.cm.bits (by omega) (by rw [hIH.out.bytes];omega) (zwide s) hW20
           have hm2H:Hid (ZM _ _ _ _ _):=hm2
           clear hlf r2 k2 hm2 hmH b13'
           go_wp2_with fail
           refine hnu.out.mono ?_
           rintro e w3 ⟨rfl,r3,k3⟩
           have hm3:ZM w w3 ({ s.1 with p:=(numB s.1.B s.1.p (zwide s)).2 },s.2) rv sv:=hm2H.out.text (hm2H.out.cm.readOn r3 k3) (Fra.kept k3 hm2H.out.cm.up)
           have htk:Hid (Calls _ _ _ _ _):=take_all hIH.out hm9 hm12 hBs (by rw [hIH.out.bytes];exact hle) hm3.cm
           have hm3H:Hid (ZM _ _ _ _ _):=hm3
           clear hnu r3 k3 hm3 hm2H
           go_wp2_with fail
           refine htk.out.mono ?_
           rintro e w4 ⟨rfl,⟨⟨rv4,sv4,m4⟩,f4⟩⟩
           have hm4:=hm3H.out.text m4 f4
           have hwd4:Hid (Calls _ _ _ _ _):=cwidth_any hm4.cm hIsH.out.gone (by have:=hIsH.out.rules;omega) (by rw [hIsH.out.most];exact hm12)
           have hm4H:Hid (ZM _ _ _ _ _):=hm4
           clear htk m4 f4 hm4 hm3H
           go_wp2_with fail
           refine hwd4.out.mono ?_
           rintro e w5 ⟨rfl,k5⟩
           have hm5:=hm4H.out.kept k5
           have c5:w5.cell? ⟨w.heap.size+1,4,none⟩=some (.int .i64 ((zstep s).2.syms:Int)):=hm5.cm.all.cell 4
           have hpm5:Hid (_=_):=pAt_of c5
           have hm5H:Hid (ZM _ _ _ _ _):=hm5
           clear hwd4 k5 hm5 hm4H c5
           go_wp2
           refine ⟨⟨n+1,by rw [hsdH.out];rfl,fun i hi=>?_,rv4,sv4,by rw [hsdH.out];exact hm5H.out⟩,?_⟩
           · by_cases hin:i=n
             · subst hin;rw [←hsH.out];exact hgoH.out
             · exact hallH.out i (by omega)
           · rw [hpm5.out,hpmH.out,hsy1,hsy2];omega
         · have hrun:Hid (ZRun f n):=hoff.out (by rw [hgod.out,hbad,hI.bytes,decide_eq_false hle];rfl)
           have hWgt:¬((zwide s:Nat):Int)≤8*(B.size:Int)-(s.1.p:Int):=by omega
           have hokd2:Hid (zOk (zit (z0 f) n)=endB s.1.B s.1.p):=by rw [←hsH.out,hokd.out,hbad];rfl
           clear hokd hgod hwz
           have hIb:=hI.bytes
           have hmH:Hid (ZM _ _ _ _ _):=hm
           clear hm
           go_wp2_with fail
           refine hlf.out.mono ?_
           rintro e w2 ⟨rfl,r2,k2⟩
           have hm2:=hmH.out.kept k2
           clear hlf r2 k2 hmH b13'
           have hrd:Hid (Calls _ _ _ _ _):=breadEnd_any w2 (w.heap.size+1) _ _ _ _ hm2.cm.bits (by rw [hI.bytes];exact hI.pb) (by rw [hI.bytes];omega)
           have hmH:Hid (ZM _ _ _ _ _):=hm2
           clear hm2
           go_wp2_with fail
           refine hrd.out.mono ?_
           rintro e w7 ⟨rfl,⟨q7,r7⟩,k7⟩
           have hm7:ZM w w7 ({ s.1 with p:=q7 },s.2) rv sv:=hmH.out.text (s':=({ s.1 with p:=q7 },s.2)) (hmH.out.cm.readOn r7 k7) (Fra.kept k7 hmH.out.cm.up)
           have b13:w7.cell? ⟨w.heap.size+1,13,none⟩=some (.bool false):=by have:=hm7.cm.all.cell 13;rw [hbadE] at this;exact this
           clear hrd hmH r7 k7
           generalize endB s.1.B s.1.p=EB at *
           cases EB with
           | false=>
             have hno:Hid (zOk (zit (z0 f) n)=false):=hokd2.out
             have hS:Hid (∀u0 u1 u2 u3 u4 u5 u6 u7,Blk _ _ _ _):=fun u0 u1 u2 u3 u4 u5 u6 u7=>set8 hm7.res u0 u1 u2 u3 u4 u5 u6 u7
             have hendH:Hid (∀w3,_→_):=hm7.fin
             have hz:=hm7.res
             unfold ztext at hz
             have z0:w7.cell? ⟨w.heap.size,0,none⟩=some (.int .i64 0):=hz.cell 0
             have y0:w7.frozen? ⟨w.heap.size,0,none⟩=false:=hz.frozen 0
             have z1:w7.cell? ⟨w.heap.size,1,none⟩=some (.int .i64 0):=hz.cell 1
             have y1:w7.frozen? ⟨w.heap.size,1,none⟩=false:=hz.frozen 1
             have z2:w7.cell? ⟨w.heap.size,2,none⟩=some (.slice none 0 0):=hz.cell 2
             have y2:w7.frozen? ⟨w.heap.size,2,none⟩=false:=hz.frozen 2
             have z3:w7.cell? ⟨w.heap.size,3,none⟩=some (.slice none 0 0):=hz.cell 3
             have y3:w7.frozen? ⟨w.heap.size,3,none⟩=false:=hz.frozen 3
             have z4:w7.cell? ⟨w.heap.size,4,none⟩=some (.int .i64 0):=hz.cell 4
             have y4:w7.frozen? ⟨w.heap.size,4,none⟩=false:=hz.frozen 4
             have z5:w7.cell? ⟨w.heap.size,5,none⟩=some (.int .i64 0):=hz.cell 5
             have y5:w7.frozen? ⟨w.heap.size,5,none⟩=false:=hz.frozen 5
             have z6:w7.cell? ⟨w.heap.size,6,none⟩=some (.int .i64 0):=hz.cell 6
             have y6:w7.frozen? ⟨w.heap.size,6,none⟩=false:=hz.frozen 6
             have z7:w7.cell? ⟨w.heap.size,7,none⟩=some (.int .i64 0):=hz.cell 7
             have y7:w7.frozen? ⟨w.heap.size,7,none⟩=false:=hz.frozen 7
             clear hz
             clear hm7
             go_wp2
             exact bodyPost_ret (v:=.tuple #[.agg ztext,.bool false]) (results_text Tryz.results31 _ _ w.heap.size ztext rfl _ rfl rfl (hS.out _ _ _ _ _ _ _ _)) rfl ⟨(hendH.out _ (kept8 _ _ _ _ _ _ _ _ _ _)).1,Or.inr ⟨hmost.out,n,hrun.out,Or.inr ⟨hno.out,rfl⟩⟩⟩
           | true=>
             have hyes:Hid (zOk (zit (z0 f) n)=true):=hokd2.out
             obtain ⟨ra,rn,rc,rfl⟩:=own_shape hm7.cm.rules
             obtain ⟨sa,sn,sc,rfl⟩:=own_shape hm7.cm.start
             have hS:Hid (∀u0 u1 u2 u3 u4 u5 u6 u7,Blk _ _ _ _):=fun u0 u1 u2 u3 u4 u5 u6 u7=>set8 hm7.res u0 u1 u2 u3 u4 u5 u6 u7
             have hendH:Hid (∀w3,_→_):=hm7.fin
             have hz:=hm7.res
             unfold ztext at hz
             have z0:w7.cell? ⟨w.heap.size,0,none⟩=some (.int .i64 0):=hz.cell 0
             have y0:w7.frozen? ⟨w.heap.size,0,none⟩=false:=hz.frozen 0
             have z1:w7.cell? ⟨w.heap.size,1,none⟩=some (.int .i64 0):=hz.cell 1
             have y1:w7.frozen? ⟨w.heap.size,1,none⟩=false:=hz.frozen 1
             have z2:w7.cell? ⟨w.heap.size,2,none⟩=some (.slice none 0 0):=hz.cell 2
             have y2:w7.frozen? ⟨w.heap.size,2,none⟩=false:=hz.frozen 2
             have z3:w7.cell? ⟨w.heap.size,3,none⟩=some (.slice none 0 0):=hz.cell 3
             have y3:w7.frozen? ⟨w.heap.size,3,none⟩=false:=hz.frozen 3
             have z4:w7.cell? ⟨w.heap.size,4,none⟩=some (.int .i64 0):=hz.cell 4
             have y4:w7.frozen? ⟨w.heap.size,4,none⟩=false:=hz.frozen 4
             have z5:w7.cell? ⟨w.heap.size,5,none⟩=some (.int .i64 0):=hz.cell 5
             have y5:w7.frozen? ⟨w.heap.size,5,none⟩=false:=hz.frozen 5
             have z6:w7.cell? ⟨w.heap.size,6,none⟩=some (.int .i64 0):=hz.cell 6
             have y6:w7.frozen? ⟨w.heap.size,6,none⟩=false:=hz.frozen 6
             have z7:w7.cell? ⟨w.heap.size,7,none⟩=some (.int .i64 0):=hz.cell 7
             have y7:w7.frozen? ⟨w.heap.size,7,none⟩=false:=hz.frozen 7
             clear hz
             have hbn:w.heap.size+1<w7.heap.size:=hm7.cm.all.lt
             have x0:w7.cell? ⟨w.heap.size+1,3,none⟩=some (.int .i64 s.2.kind):=hm7.cm.all.cell 3
             have x1:w7.cell? ⟨w.heap.size+1,4,none⟩=some (.int .i64 (s.2.syms:Int)):=hm7.cm.all.cell 4
             have x2:w7.cell? ⟨w.heap.size+1,5,none⟩=some (.slice ra rn rc):=hm7.cm.all.cell 5
             have x3:w7.cell? ⟨w.heap.size+1,6,none⟩=some (.slice sa sn sc):=hm7.cm.all.cell 6
             have x4:w7.cell? ⟨w.heap.size+1,7,none⟩=some (.int .i64 (s.2.whole.len:Int)):=hm7.cm.all.cell 7
             have x5:w7.cell? ⟨w.heap.size+1,8,none⟩=some (.int .i64 (s.2.whole.nl:Int)):=hm7.cm.all.cell 8
             have x6:w7.cell? ⟨w.heap.size+1,9,none⟩=some (.int .i64 (s.2.whole.first:Int)):=hm7.cm.all.cell 9
             have x7:w7.cell? ⟨w.heap.size+1,10,none⟩=some (.int .i64 (s.2.whole.last:Int)):=hm7.cm.all.cell 10
             have hfin:Hid (∀w3,Kept [w.heap.size] w7 w3→CodesOut f w w3 (.returned (.tuple #[.agg #[.int .i64 s.2.kind,.int .i64 s.2.syms,.slice ra rn rc,.slice sa sn sc,.int .i64 s.2.whole.len,.int .i64 s.2.whole.nl,.int .i64 s.2.whole.first,.int .i64 s.2.whole.last],.bool true]))):=fun w3 k=>by
              obtain ⟨b3,v3⟩:=hendH.out w3 k
              refine ⟨b3,Or.inr ⟨hmost.out,n,hrun.out,Or.inl ⟨hyes.out,.slice ra rn rc,.slice sa sn sc,?_,?_⟩⟩⟩
              · rw [←hsH.out];exact v3
              · rw [←hsH.out];rfl
             clear hm7 hendH
             go_wp2
             refine bodyPost_ret (v:=.tuple #[.agg #[.int .i64 s.2.kind,.int .i64 s.2.syms,.slice ra rn rc,.slice sa sn sc,.int .i64 s.2.whole.len,.int .i64 s.2.whole.nl,.int .i64 s.2.whole.first,.int .i64 s.2.whole.last],.bool true]) (results_text Tryz.results31 _ _ w.heap.size _ rfl _ rfl rfl (hS.out _ _ _ _ _ _ _ _)) rfl ?_
             exact hfin.out _ (kept8 _ _ _ _ _ _ _ _ _ _)
    · have hmost:Hid (zMost f=false):=by
       show zMost f=false
       unfold zMost
       rw [←hmoH.out]
       by_cases h9:9≤mo
       · rw [decide_eq_false (show ¬mo≤12 by omega)];simp
       · rw [decide_eq_false h9];simp
      have hfin:Hid (Below w.heap.size w ((w.alloc (.cells ztext 61)).alloc (.cells #[.string B,.int .i64 0,.int .i64 (mo:Int),.int .i64 90,.int .i64 0,.slice none 0 0,.slice none 0 0,.int .i64 0,.int .i64 0,.int .i64 0,.int .i64 0,.int .i64 0,.int .i64 (-1),.bool false] 153)).drew∧Blk ((w.alloc (.cells ztext 61)).alloc (.cells #[.string B,.int .i64 0,.int .i64 (mo:Int),.int .i64 90,.int .i64 0,.slice none 0 0,.slice none 0 0,.int .i64 0,.int .i64 0,.int .i64 0,.int .i64 0,.int .i64 0,.int .i64 (-1),.bool false] 153)).drew w.heap.size ztext 61):=⟨hI0.below,hI0.res⟩
      clear hI0 hz0
      unfold ztext
      by_cases h9:(mo:Int)<9
      · go_wp2
        exact bodyPost_ret (v:=.tuple #[.agg ztext,.bool false]) (results_text Tryz.results31 _ _ w.heap.size ztext rfl _ rfl rfl hfin.out.2) rfl ⟨hfin.out.1,Or.inl ⟨hmost.out,rfl⟩⟩
      · have h12:(12:Int)<(mo:Int):=by omega
        go_wp2
        exact bodyPost_ret (v:=.tuple #[.agg ztext,.bool false]) (results_text Tryz.results31 _ _ w.heap.size ztext rfl _ rfl rfl hfin.out.2) rfl ⟨hfin.out.1,Or.inl ⟨hmost.out,rfl⟩⟩
end Go.Proofs.YtgifhgnccmnbiabGreat
