/- Package packed: the reader of files of codes: one code taken. -/
import Derived.Test.YtgifhgnccmnbiabGreatG27
set_option linter.unusedVariables false
set_option linter.unusedSimpArgs false
set_option maxHeartbeats 4000000
set_option maxRecDepth 100000
namespace Go.Proofs.YtgifhgnccmnbiabGreat
open Go.RowKit Go.IntWalk
def addStart (t:TT) (s:Nat):TT:={ t with start:=t.start++[s],whole:=joinP t.whole (partAt t.rules s) }
def addRuleT (t:TT) (l r:Nat):TT:={ t with rules:=t.rules++[ruleP t.rules l r] }
def upSyms (t:TT):TT:={ t with syms:=t.syms+1 }
def takeT (t:TT) (gone:Nat) (joins:Option Nat) (code F:Nat):TT:=
 match joins with
 | none=>addStart (upSyms t) (symC gone code)
 | some a=>addStart (addRuleT (upSyms t) a (firstC t gone a code F)) (symC gone code)
def joinsC (c:CD) (F:Nat):Option Nat:=match c.ahead with
 | none=>none
 | some a=>if F<2 ^ c.most then some a else none
def badC (c:CD) (code F:Nat):Prop:=F<code∨(code=F∧joinsC c F=none)
instance (c:CD) (code F:Nat):Decidable (badC c code F):=inferInstanceAs (Decidable (_∨_))
def takeC (c:CD) (t:TT) (code:Nat):CD×TT:=
 if code=256 then ({ c with gone:=t.rules.length,ahead:=none },upSyms t)
 else if badC c code (freeN t c) then ({ c with bad:=true },upSyms t)
 else ({ c with ahead:=some (symC c.gone code) },takeT t c.gone (joinsC c (freeN t c)) code (freeN t c))
section
variable {w w':World} {b Bd:Nat} {c:CD} {t:TT} {rv sv:Value}
theorem CM.setSyms (h:CM w b c Bd t rv sv):CM (w.setCell ⟨b,4,none⟩ (.int .i64 ((t.syms+1:Nat):Int))) b c Bd (upSyms t) rv sv:=
 h.of_all (t':=upSyms t) (h.all.set 4 _) ((Kept.refl [b] w).setCell (p:=⟨b,4,none⟩) (by simp) _) rfl rfl h.whole
theorem CM.setGone (h:CM w b c Bd t rv sv) (n:Nat):CM (w.setCell ⟨b,11,none⟩ (.int .i64 (n:Int))) b { c with gone:=n } Bd t rv sv:=
 h.of_all (c':={ c with gone:=n }) (h.all.set 11 _) ((Kept.refl [b] w).setCell (p:=⟨b,11,none⟩) (by simp) _) rfl rfl h.whole
theorem CM.setAhead (h:CM w b c Bd t rv sv) (a:Option Nat):CM (w.setCell ⟨b,12,none⟩ (.int .i64 (aheadI a))) b { c with ahead:=a } Bd t rv sv:=
 h.of_all (c':={ c with ahead:=a }) (h.all.set 12 _) ((Kept.refl [b] w).setCell (p:=⟨b,12,none⟩) (by simp) _) rfl rfl h.whole
theorem CM.setBad (h:CM w b c Bd t rv sv):CM (w.setCell ⟨b,13,none⟩ (.bool true)) b { c with bad:=true } Bd t rv sv:=
 h.of_all (c':={ c with bad:=true }) (h.all.set 13 _) ((Kept.refl [b] w).setCell (p:=⟨b,13,none⟩) (by simp) _) rfl rfl h.whole
theorem Fra.kept {B b:Nat} {w w':World} (k:Kept [b] w w') (hB:B≤w.heap.size):Fra B b w w':=⟨k.os,k.tape,k.output,k.size,fun i hi hb=>k.block i (by omega) (by simpa using hb)⟩
end
structure TakeOut (w w':World) (b Bd:Nat) (r:CD×TT):Prop where
 mem:∃rv sv,CM w' b r.1 Bd r.2 rv sv
 fra:Fra Bd b w w'
theorem take_clear {w:World} {b Bd:Nat} {c:CD} {t:TT} {rv sv:Value} (h:CM w b c Bd t rv sv) (hs:t.syms≤100000):
 Calls Tryz.prog 64 #[.pointer (some ⟨b,0,none⟩),.int .i64 256] w fun e w'=>e=.returned (.tuple #[])∧TakeOut w w' b Bd ({ c with gone:=t.rules.length,ahead:=none },upSyms t):=by
 have hfin:Hid (TakeOut w (((w.setCell ⟨b,4,none⟩ (.int .i64 ((t.syms+1:Nat):Int))).setCell ⟨b,11,none⟩ (.int .i64 (t.rules.length:Int))).setCell ⟨b,12,none⟩ (.int .i64 (-1))) b Bd ({ c with gone:=t.rules.length,ahead:=none },upSyms t)):=
  ⟨⟨rv,sv,(h.setSyms.setGone t.rules.length).setAhead none⟩,Fra.kept (((((Kept.refl [b] w).setCell (p:=⟨b,4,none⟩) (by simp) _).setCell (p:=⟨b,11,none⟩) (by simp) _)).setCell (p:=⟨b,12,none⟩) (by simp) _) h.up⟩
 have c4:w.cell? ⟨b,4,none⟩=some (.int .i64 (t.syms:Int)):=h.all.cell 4
 have c5:w.cell? ⟨b,5,none⟩=some rv:=h.all.cell 5
 have c11:w.cell? ⟨b,11,none⟩=some (.int .i64 (c.gone:Int)):=h.all.cell 11
 have c12:w.cell? ⟨b,12,none⟩=some (.int .i64 (aheadI c.ahead)):=h.all.cell 12
 have f4:w.frozen? ⟨b,4,none⟩=false:=h.all.frozen 4
 have f11:w.frozen? ⟨b,11,none⟩=false:=h.all.frozen 11
 have f12:w.frozen? ⟨b,12,none⟩=false:=h.all.frozen 12
 have hv:∃a cap,rv=.slice a t.rules.length cap:=by
  rcases h.rules.2 with ⟨h3,h4⟩ | ⟨g,cap,_,h3,_⟩
  · exact ⟨none,0,by rw [h3,h4]⟩
  · exact ⟨_,cap,h3⟩
 obtain ⟨a,cap,rfl⟩:=hv
 simp only [Int.natCast_add,Int.natCast_one] at hfin
 clear h
 go_enter Tryz.func64,Tryz.ntmps64
 go_wp2
 exact bodyPost_ret (v:=.tuple #[]) (by simp [results,Tryz.results64]) rfl ⟨rfl,hfin.out⟩
theorem ctake_any {w:World} {b Bd:Nat} {c:CD} {t:TT} {rv sv:Value} (h:CM w b c Bd t rv sv) (code:Nat) (hs:t.syms≤100000) (hcode:code≤4095) (hne:code≠256) (hm9:9≤c.most) (hm12:c.most≤12)
 (hg:c.gone≤t.rules.length) (hl:t.rules.length≤5000) (hst:t.start.length≤5000) (ha:∀a,c.ahead=some a→a≤9000) (hfb:∀a F,firstC t c.gone a code F≤255):
 Calls Tryz.prog 64 #[.pointer (some ⟨b,0,none⟩),.int .i64 (code:Int)] w fun e w'=>e=.returned (.tuple #[])∧TakeOut w w' b Bd (takeC c t code):=by
 have hT:takeC c t code=if badC c code (freeN t c) then ({ c with bad:=true },upSyms t) else ({ c with ahead:=some (symC c.gone code) },takeT t c.gone (joinsC c (freeN t c)) code (freeN t c)):=by
  unfold takeC;rw [if_neg hne]
 rw [hT]
 clear hT
 have c4:w.cell? ⟨b,4,none⟩=some (.int .i64 (t.syms:Int)):=h.all.cell 4
 have f4:w.frozen? ⟨b,4,none⟩=false:=h.all.frozen 4
 have h1:CM (w.setCell ⟨b,4,none⟩ (.int .i64 ((t.syms+1:Nat):Int))) b c Bd (upSyms t) rv sv:=h.setSyms
 have k1:Hid (Kept [b] w (w.setCell ⟨b,4,none⟩ (.int .i64 ((t.syms+1:Nat):Int)))):=(Kept.refl [b] w).setCell (p:=⟨b,4,none⟩) (by simp) _
 have hfree:Hid (Calls _ _ _ _ _):=cfree_any h1 hg (by show t.rules.length≤_;omega)
 have eF:freeN (upSyms t) c=freeN t c:=rfl
 rw [eF] at hfree
 clear eF
 have hF:freeN t c≤10000:=by unfold freeN;omega
 have h1H:Hid (CM _ _ _ _ _ _ _):=h1
 have eb:((code:Int)==256)=false:=beq_eq_false_iff_ne.2 (by omega)
 have hup:Hid (Bd≤w.heap.size):=h.up
 obtain ⟨M,hM⟩:∃M,M=2 ^ c.most:=⟨_,rfl⟩
 have hM12:M≤4096:=by
  have h2:2 ^ c.most≤2 ^ 12:=Nat.pow_le_pow_right (by omega) hm12
  rw [←hM] at h2
  exact h2
 have hpow:wrap64 ((2:Int) ^ c.most)=(M:Int):=by
  rw [show ((2:Int) ^ c.most)=(M:Int) by rw [hM];simp [Int.natCast_pow]]
  exact wrap64_in _ (by omega)
 have hMH:Hid (M=2 ^ c.most):=hM
 clear hM
 have hfbH:Hid (∀a F,_):=hfb
 have haH:Hid (∀a,_):=ha
 have hgH:Hid (c.gone≤t.rules.length):=hg
 simp only [Int.natCast_add,Int.natCast_one] at hfree h1H k1
 have hbC:badC c code (freeN t c)↔(freeN t c<code∨(code=freeN t c∧joinsC c (freeN t c)=none)):=Iff.rfl
 generalize freeN t c=F at *
 clear h h1 hfb ha hg
 cases hah:c.ahead with
 | none=>
   have hj:Hid (joinsC c F=none):=by show joinsC c F=none;unfold joinsC;rw [hah]
   rw [hj.out] at hbC ⊢
   have hahH:Hid (_=_):=hah
   clear hah hpow
   rcases Nat.lt_trichotomy F code with hlt | hlt | hlt
   · rw [if_pos (hbC.2 (Or.inl hlt))]
     have hlt':(F:Int)<(code:Int):=by omega
     clear hbC
     go_enter Tryz.func64,Tryz.ntmps64
     go_wp2_with fail
     refine hfree.out.mono ?_
     rintro e w2 ⟨rfl,k2⟩
     have h2:=h1H.out.keptW k2
     have d12:w2.cell? ⟨b,12,none⟩=some (.int .i64 (-1)):=by have:=h2.all.cell 12;rw [hahH.out] at this;exact this
     have hfin:Hid (TakeOut w (w2.setCell ⟨b,13,none⟩ (.bool true)) b Bd ({ c with bad:=true },upSyms t)):=⟨⟨rv,sv,h2.setBad⟩,Fra.kept ((k1.out.trans (k2.mono (by simp))).setCell (p:=⟨b,13,none⟩) (by simp) _) hup.out⟩
     have d13:w2.cell? ⟨b,13,none⟩=some (.bool c.bad):=h2.all.cell 13
     have g13:w2.frozen? ⟨b,13,none⟩=false:=h2.all.frozen 13
     clear h2 h1H k1 k2
     go_wp2
     exact bodyPost_ret (v:=.tuple #[]) (by simp [results,Tryz.results64]) rfl ⟨rfl,by have hz:=hfin.out;rw [hahH.out] at hz;exact hz⟩
   · subst hlt
     rw [if_pos (hbC.2 (Or.inr ⟨rfl,by simp⟩))]
     clear hbC
     go_enter Tryz.func64,Tryz.ntmps64
     go_wp2_with fail
     refine hfree.out.mono ?_
     rintro e w2 ⟨rfl,k2⟩
     have h2:=h1H.out.keptW k2
     have d12:w2.cell? ⟨b,12,none⟩=some (.int .i64 (-1)):=by have:=h2.all.cell 12;rw [hahH.out] at this;exact this
     have hfin:Hid (TakeOut w (w2.setCell ⟨b,13,none⟩ (.bool true)) b Bd ({ c with bad:=true },upSyms t)):=⟨⟨rv,sv,h2.setBad⟩,Fra.kept ((k1.out.trans (k2.mono (by simp))).setCell (p:=⟨b,13,none⟩) (by simp) _) hup.out⟩
     have d13:w2.cell? ⟨b,13,none⟩=some (.bool c.bad):=h2.all.cell 13
     have g13:w2.frozen? ⟨b,13,none⟩=false:=h2.all.frozen 13
     clear h2 h1H k1 k2
     go_wp2
     exact bodyPost_ret (v:=.tuple #[]) (by simp [results,Tryz.results64]) rfl ⟨rfl,by have hz:=hfin.out;rw [hahH.out] at hz;exact hz⟩
   · rw [if_neg (fun hc=>by rcases hbC.1 hc with h | h <;> omega)]
     have hn1:¬(F:Int)<(code:Int):=by omega
     have hn2:((code:Int)==(F:Int))=false:=beq_eq_false_iff_ne.2 (by omega)
     have hgle:=hgH.out
     clear hbC
     go_enter Tryz.func64,Tryz.ntmps64
     go_wp2_with fail
     refine hfree.out.mono ?_
     rintro e w2 ⟨rfl,k2⟩
     have h2:=h1H.out.keptW k2
     have d12:w2.cell? ⟨b,12,none⟩=some (.int .i64 (-1)):=by have:=h2.all.cell 12;rw [hahH.out] at this;exact this
     have hsy:Hid (Calls _ _ _ _ _):=csymbol_any h2 code (by omega) (by omega)
     have hS1:symC c.gone code≤90000:=by unfold symC;split <;> omega
     have x12:w2.cell? ⟨b,12,none⟩=some (.int .i64 (aheadI c.ahead)):=h2.all.cell 12
     have y12:w2.frozen? ⟨b,12,none⟩=false:=h2.all.frozen 12
     have hA:CM (w2.setCell ⟨b,12,none⟩ (.int .i64 (symC c.gone code:Int))) b { c with ahead:=some (symC c.gone code) } Bd (upSyms t) rv sv:=h2.setAhead (some (symC c.gone code))
     have hst:Hid (Calls _ _ _ (w2.setCell ⟨b,12,none⟩ (.int .i64 (symC c.gone code:Int))).drew _):=addToStart_any (TM.kept hA (Kept.refl [] _).drew) (o:=3) rfl (symC c.gone code) (by omega) (by show t.rules.length≤_;omega) (by show t.start.length≤_;omega)
     have hAH:Hid (Fra Bd b w (w2.setCell ⟨b,12,none⟩ (.int .i64 (symC c.gone code:Int))).drew):=((Fra.kept (k1.out.trans (k2.mono (by simp))) hup.out).trans (Fra.kept ((Kept.refl [b] _).setCell (p:=⟨b,12,none⟩) (by simp) _) h2.up)).drew
     have hfin:Hid (∀w9,Fra Bd b (w2.setCell ⟨b,12,none⟩ (.int .i64 (symC c.gone code:Int))).drew w9→(∃v',TM w9 b (CD.pre { c with ahead:=some (symC c.gone code) }) (CD.post { c with ahead:=some (symC c.gone code) }) 153 Bd (addStart (upSyms t) (symC c.gone code)) rv v')→TakeOut w w9 b Bd ({ c with ahead:=some (symC c.gone code) },takeT t c.gone none code F)):=fun w9 f9 ⟨v',t9⟩=>⟨⟨_,v',t9⟩,hAH.out.trans f9⟩
     clear hA h2 k1 k2 h1H
     go_wp2_with fail
     refine hsy.out.mono ?_
     rintro e wy ⟨rfl,rfl⟩
     go_wp2_with fail
     go_region_law (go_simp;go_at_call 60;refine hst.out.mono ?_;rintro _ w9 ⟨rfl,f9,t9⟩)
     all_goals
      have hout:Hid (TakeOut _ _ _ _ _):=hfin.out _ f9 t9
      clear f9 t9
      go_wp2
      go_end0
      exact ⟨rfl,hout.out⟩
 | some a=>
   have haa:=haH.out a hah
   have hahH:Hid (_=_):=hah
   have ea:((a:Int) != -1)=true:=by simp
   clear hah
   by_cases hjn:F<M
   · have hj:Hid (joinsC c F=some a):=by show joinsC c F=some a;unfold joinsC;rw [hahH.out];exact if_pos (by rw [←hMH.out];exact hjn)
     rw [hj.out] at hbC ⊢
     have hjn':(F:Int)<(M:Int):=by omega
     clear hjn
     rcases Nat.lt_or_ge F code with hlt | hle
     · rw [if_pos (hbC.2 (Or.inl hlt))]
       have hlt':(F:Int)<(code:Int):=by omega
       clear hbC
       go_enter Tryz.func64,Tryz.ntmps64
       go_wp2_with fail
       refine hfree.out.mono ?_
       rintro e w2 ⟨rfl,k2⟩
       have h2:=h1H.out.keptW k2
       have d12:w2.cell? ⟨b,12,none⟩=some (.int .i64 (a:Int)):=by have:=h2.all.cell 12;rw [hahH.out] at this;exact this
       have d2:w2.cell? ⟨b,2,none⟩=some (.int .i64 (c.most:Int)):=h2.all.cell 2
       have hfin:Hid (TakeOut w (w2.setCell ⟨b,13,none⟩ (.bool true)) b Bd ({ c with bad:=true },upSyms t)):=⟨⟨rv,sv,h2.setBad⟩,Fra.kept ((k1.out.trans (k2.mono (by simp))).setCell (p:=⟨b,13,none⟩) (by simp) _) hup.out⟩
       have d13:w2.cell? ⟨b,13,none⟩=some (.bool c.bad):=h2.all.cell 13
       have g13:w2.frozen? ⟨b,13,none⟩=false:=h2.all.frozen 13
       clear h2 h1H k1 k2
       go_wp2
       exact bodyPost_ret (v:=.tuple #[]) (by simp [results,Tryz.results64]) rfl ⟨rfl,by have hz:=hfin.out;rw [hahH.out] at hz;exact hz⟩
     · rw [if_neg (fun hc=>by
        rcases hbC.1 hc with h | h
        · omega
        · exact absurd h.2 (by simp))]
       have hn1:¬(F:Int)<(code:Int):=by omega
       have hgle:=hgH.out
       have hq:=hfbH.out a F
       obtain ⟨fb,hfbe⟩:∃fb,fb=firstC t c.gone a code F:=⟨_,rfl⟩
       have htake:takeT t c.gone (some a) code F=addStart (addRuleT (upSyms t) a fb) (symC c.gone code):=by rw [hfbe];rfl
       rw [htake]
       rw [←hfbe] at hq
       have hfbeH:Hid (fb=_):=hfbe
       clear hbC htake hfbe
       rcases Nat.lt_or_eq_of_le hle with hcl | hce
       · have hn2:((code:Int)==(F:Int))=false:=beq_eq_false_iff_ne.2 (by omega)
         clear hcl hle
         go_enter Tryz.func64,Tryz.ntmps64
         go_wp2_with fail
         refine hfree.out.mono ?_
         rintro e w2 ⟨rfl,k2⟩
         have h2:=h1H.out.keptW k2
         have d12:w2.cell? ⟨b,12,none⟩=some (.int .i64 (a:Int)):=by have:=h2.all.cell 12;rw [hahH.out] at this;exact this
         have d2:w2.cell? ⟨b,2,none⟩=some (.int .i64 (c.most:Int)):=h2.all.cell 2
         have hfirst:Hid (Calls _ _ _ _ _):=cfirst_any h2 a code F hahH.out (by omega) (by omega) (by omega) (by show t.rules.length≤_;omega)
         have ef:firstC (upSyms t) c.gone a code F=fb:=hfbeH.out.symm
         rw [ef] at hfirst
         clear ef
         have h2H:Hid (CM _ _ _ _ _ _ _):=h2
         have k12:Hid (Fra Bd b w w2):=(Fra.kept (k1.out.trans (k2.mono (by simp))) hup.out)
         clear hfree h2 k1 k2 h1H
         go_wp2_with fail
         refine hfirst.out.mono ?_
         rintro e w3 ⟨rfl,k3⟩
         have h3:=h2H.out.keptW k3
         have z12:w3.cell? ⟨b,12,none⟩=some (.int .i64 (a:Int)):=by have:=h3.all.cell 12;rw [hahH.out] at this;exact this
         have hru:Hid (Calls _ _ _ w3.drew _):=addRule_any (TM.kept h3 (Kept.refl [] _).drew) (o:=3) rfl a fb (by omega) (by omega) (by show t.rules.length≤_;omega)
         have k13:Hid (Fra Bd b w w3.drew):=(k12.out.trans (Fra.of_kept k3 h2H.out.up)).drew
         clear hfirst h3 k3 h2H d12 k12
         go_wp2_with fail
         go_region_law (go_simp;go_at_call 59;refine hru.out.mono ?_;rintro _ w4 ⟨rfl,f4',rv4,t4⟩)
         all_goals
          have k14:Hid (Fra Bd b w w4):=k13.out.trans f4'
          have h4:CM w4 b c Bd (addRuleT (upSyms t) a fb) rv4 sv:=t4
          clear hru k13 f4' t4
          have hsy:Hid (Calls _ _ _ _ _):=csymbol_any h4 code (by omega) (by omega)
          have hS1:symC c.gone code≤90000:=by unfold symC;split <;> omega
          have x12:w4.cell? ⟨b,12,none⟩=some (.int .i64 (aheadI c.ahead)):=h4.all.cell 12
          have y12:w4.frozen? ⟨b,12,none⟩=false:=h4.all.frozen 12
          have hA:CM (w4.setCell ⟨b,12,none⟩ (.int .i64 (symC c.gone code:Int))) b { c with ahead:=some (symC c.gone code) } Bd (addRuleT (upSyms t) a fb) rv4 sv:=h4.setAhead (some (symC c.gone code))
          have hst:Hid (Calls _ _ _ (w4.setCell ⟨b,12,none⟩ (.int .i64 (symC c.gone code:Int))).drew _):=addToStart_any (TM.kept hA (Kept.refl [] _).drew) (o:=3) rfl (symC c.gone code) (by omega) (by show (t.rules++[_]).length≤_;simp;omega) (by show t.start.length≤_;omega)
          have hAH:Hid (Fra Bd b w (w4.setCell ⟨b,12,none⟩ (.int .i64 (symC c.gone code:Int))).drew):=(k14.out.trans (Fra.kept ((Kept.refl [b] _).setCell (p:=⟨b,12,none⟩) (by simp) _) h4.up)).drew
          have hfin:Hid (∀w9,Fra Bd b (w4.setCell ⟨b,12,none⟩ (.int .i64 (symC c.gone code:Int))).drew w9→(∃v',TM w9 b (CD.pre { c with ahead:=some (symC c.gone code) }) (CD.post { c with ahead:=some (symC c.gone code) }) 153 Bd (addStart (addRuleT (upSyms t) a fb) (symC c.gone code)) rv4 v')→TakeOut w w9 b Bd ({ c with ahead:=some (symC c.gone code) },addStart (addRuleT (upSyms t) a fb) (symC c.gone code))):=fun w9 f9 ⟨v',t9⟩=>⟨⟨_,v',t9⟩,hAH.out.trans f9⟩
          clear hA h4 k14
          go_wp2_with fail
          refine hsy.out.mono ?_
          rintro e wy ⟨rfl,rfl⟩
          go_wp2_with fail
          go_region_law (go_simp;go_at_call 60;refine hst.out.mono ?_;rintro _ w9 ⟨rfl,f9,t9⟩)
          all_goals
           have hout:Hid (TakeOut _ _ _ _ _):=hfin.out _ f9 t9
           clear f9 t9
           go_wp2
           go_end0
           exact ⟨rfl,hout.out⟩
       · have hn2:((code:Int)==(F:Int))=true:=by rw [beq_iff_eq];omega
         clear hce hle
         go_enter Tryz.func64,Tryz.ntmps64
         go_wp2_with fail
         refine hfree.out.mono ?_
         rintro e w2 ⟨rfl,k2⟩
         have h2:=h1H.out.keptW k2
         have d12:w2.cell? ⟨b,12,none⟩=some (.int .i64 (a:Int)):=by have:=h2.all.cell 12;rw [hahH.out] at this;exact this
         have d2:w2.cell? ⟨b,2,none⟩=some (.int .i64 (c.most:Int)):=h2.all.cell 2
         have hfirst:Hid (Calls _ _ _ _ _):=cfirst_any h2 a code F hahH.out (by omega) (by omega) (by omega) (by show t.rules.length≤_;omega)
         have ef:firstC (upSyms t) c.gone a code F=fb:=hfbeH.out.symm
         rw [ef] at hfirst
         clear ef
         have h2H:Hid (CM _ _ _ _ _ _ _):=h2
         have k12:Hid (Fra Bd b w w2):=(Fra.kept (k1.out.trans (k2.mono (by simp))) hup.out)
         clear hfree h2 k1 k2 h1H
         go_wp2_with fail
         refine hfirst.out.mono ?_
         rintro e w3 ⟨rfl,k3⟩
         have h3:=h2H.out.keptW k3
         have z12:w3.cell? ⟨b,12,none⟩=some (.int .i64 (a:Int)):=by have:=h3.all.cell 12;rw [hahH.out] at this;exact this
         have hru:Hid (Calls _ _ _ w3.drew _):=addRule_any (TM.kept h3 (Kept.refl [] _).drew) (o:=3) rfl a fb (by omega) (by omega) (by show t.rules.length≤_;omega)
         have k13:Hid (Fra Bd b w w3.drew):=(k12.out.trans (Fra.of_kept k3 h2H.out.up)).drew
         clear hfirst h3 k3 h2H d12 k12
         go_wp2_with fail
         go_region_law (go_simp;go_at_call 59;refine hru.out.mono ?_;rintro _ w4 ⟨rfl,f4',rv4,t4⟩)
         all_goals
          have k14:Hid (Fra Bd b w w4):=k13.out.trans f4'
          have h4:CM w4 b c Bd (addRuleT (upSyms t) a fb) rv4 sv:=t4
          clear hru k13 f4' t4
          have hsy:Hid (Calls _ _ _ _ _):=csymbol_any h4 code (by omega) (by omega)
          have hS1:symC c.gone code≤90000:=by unfold symC;split <;> omega
          have x12:w4.cell? ⟨b,12,none⟩=some (.int .i64 (aheadI c.ahead)):=h4.all.cell 12
          have y12:w4.frozen? ⟨b,12,none⟩=false:=h4.all.frozen 12
          have hA:CM (w4.setCell ⟨b,12,none⟩ (.int .i64 (symC c.gone code:Int))) b { c with ahead:=some (symC c.gone code) } Bd (addRuleT (upSyms t) a fb) rv4 sv:=h4.setAhead (some (symC c.gone code))
          have hst:Hid (Calls _ _ _ (w4.setCell ⟨b,12,none⟩ (.int .i64 (symC c.gone code:Int))).drew _):=addToStart_any (TM.kept hA (Kept.refl [] _).drew) (o:=3) rfl (symC c.gone code) (by omega) (by show (t.rules++[_]).length≤_;simp;omega) (by show t.start.length≤_;omega)
          have hAH:Hid (Fra Bd b w (w4.setCell ⟨b,12,none⟩ (.int .i64 (symC c.gone code:Int))).drew):=(k14.out.trans (Fra.kept ((Kept.refl [b] _).setCell (p:=⟨b,12,none⟩) (by simp) _) h4.up)).drew
          have hfin:Hid (∀w9,Fra Bd b (w4.setCell ⟨b,12,none⟩ (.int .i64 (symC c.gone code:Int))).drew w9→(∃v',TM w9 b (CD.pre { c with ahead:=some (symC c.gone code) }) (CD.post { c with ahead:=some (symC c.gone code) }) 153 Bd (addStart (addRuleT (upSyms t) a fb) (symC c.gone code)) rv4 v')→TakeOut w w9 b Bd ({ c with ahead:=some (symC c.gone code) },addStart (addRuleT (upSyms t) a fb) (symC c.gone code))):=fun w9 f9 ⟨v',t9⟩=>⟨⟨_,v',t9⟩,hAH.out.trans f9⟩
          clear hA h4 k14
          go_wp2_with fail
          refine hsy.out.mono ?_
          rintro e wy ⟨rfl,rfl⟩
          go_wp2_with fail
          go_region_law (go_simp;go_at_call 60;refine hst.out.mono ?_;rintro _ w9 ⟨rfl,f9,t9⟩)
          all_goals
           have hout:Hid (TakeOut _ _ _ _ _):=hfin.out _ f9 t9
           clear f9 t9
           go_wp2
           go_end0
           exact ⟨rfl,hout.out⟩
   · have hj:Hid (joinsC c F=none):=by show joinsC c F=none;unfold joinsC;rw [hahH.out];exact if_neg (by rw [←hMH.out];exact hjn)
     rw [hj.out] at hbC ⊢
     have hjn':¬(F:Int)<(M:Int):=by omega
     have hjd:decide (F<M)=false:=decide_eq_false hjn
     clear hjn
     rcases Nat.lt_trichotomy F code with hlt | hlt | hlt
     · rw [if_pos (hbC.2 (Or.inl hlt))]
       have hlt':(F:Int)<(code:Int):=by omega
       clear hbC
       go_enter Tryz.func64,Tryz.ntmps64
       go_wp2_with fail
       refine hfree.out.mono ?_
       rintro e w2 ⟨rfl,k2⟩
       have h2:=h1H.out.keptW k2
       have d12:w2.cell? ⟨b,12,none⟩=some (.int .i64 (a:Int)):=by have:=h2.all.cell 12;rw [hahH.out] at this;exact this
       have d2:w2.cell? ⟨b,2,none⟩=some (.int .i64 (c.most:Int)):=h2.all.cell 2
       have hfin:Hid (TakeOut w (w2.setCell ⟨b,13,none⟩ (.bool true)) b Bd ({ c with bad:=true },upSyms t)):=⟨⟨rv,sv,h2.setBad⟩,Fra.kept ((k1.out.trans (k2.mono (by simp))).setCell (p:=⟨b,13,none⟩) (by simp) _) hup.out⟩
       have d13:w2.cell? ⟨b,13,none⟩=some (.bool c.bad):=h2.all.cell 13
       have g13:w2.frozen? ⟨b,13,none⟩=false:=h2.all.frozen 13
       clear h2 h1H k1 k2
       go_wp2
       exact bodyPost_ret (v:=.tuple #[]) (by simp [results,Tryz.results64]) rfl ⟨rfl,by have hz:=hfin.out;rw [hahH.out] at hz;exact hz⟩
     · subst hlt
       rw [if_pos (hbC.2 (Or.inr ⟨rfl,by simp⟩))]
       clear hbC
       go_enter Tryz.func64,Tryz.ntmps64
       go_wp2_with fail
       refine hfree.out.mono ?_
       rintro e w2 ⟨rfl,k2⟩
       have h2:=h1H.out.keptW k2
       have d12:w2.cell? ⟨b,12,none⟩=some (.int .i64 (a:Int)):=by have:=h2.all.cell 12;rw [hahH.out] at this;exact this
       have d2:w2.cell? ⟨b,2,none⟩=some (.int .i64 (c.most:Int)):=h2.all.cell 2
       have hfin:Hid (TakeOut w (w2.setCell ⟨b,13,none⟩ (.bool true)) b Bd ({ c with bad:=true },upSyms t)):=⟨⟨rv,sv,h2.setBad⟩,Fra.kept ((k1.out.trans (k2.mono (by simp))).setCell (p:=⟨b,13,none⟩) (by simp) _) hup.out⟩
       have d13:w2.cell? ⟨b,13,none⟩=some (.bool c.bad):=h2.all.cell 13
       have g13:w2.frozen? ⟨b,13,none⟩=false:=h2.all.frozen 13
       clear h2 h1H k1 k2
       go_wp2
       exact bodyPost_ret (v:=.tuple #[]) (by simp [results,Tryz.results64]) rfl ⟨rfl,by have hz:=hfin.out;rw [hahH.out] at hz;exact hz⟩
     · rw [if_neg (fun hc=>by rcases hbC.1 hc with h | h <;> omega)]
       have hn1:¬(F:Int)<(code:Int):=by omega
       have hn2:((code:Int)==(F:Int))=false:=beq_eq_false_iff_ne.2 (by omega)
       have hgle:=hgH.out
       clear hbC
       go_enter Tryz.func64,Tryz.ntmps64
       go_wp2_with fail
       refine hfree.out.mono ?_
       rintro e w2 ⟨rfl,k2⟩
       have h2:=h1H.out.keptW k2
       have d12:w2.cell? ⟨b,12,none⟩=some (.int .i64 (a:Int)):=by have:=h2.all.cell 12;rw [hahH.out] at this;exact this
       have d2:w2.cell? ⟨b,2,none⟩=some (.int .i64 (c.most:Int)):=h2.all.cell 2
       have hsy:Hid (Calls _ _ _ _ _):=csymbol_any h2 code (by omega) (by omega)
       have hS1:symC c.gone code≤90000:=by unfold symC;split <;> omega
       have x12:w2.cell? ⟨b,12,none⟩=some (.int .i64 (aheadI c.ahead)):=h2.all.cell 12
       have y12:w2.frozen? ⟨b,12,none⟩=false:=h2.all.frozen 12
       have hA:CM (w2.setCell ⟨b,12,none⟩ (.int .i64 (symC c.gone code:Int))) b { c with ahead:=some (symC c.gone code) } Bd (upSyms t) rv sv:=h2.setAhead (some (symC c.gone code))
       have hst:Hid (Calls _ _ _ (w2.setCell ⟨b,12,none⟩ (.int .i64 (symC c.gone code:Int))).drew _):=addToStart_any (TM.kept hA (Kept.refl [] _).drew) (o:=3) rfl (symC c.gone code) (by omega) (by show t.rules.length≤_;omega) (by show t.start.length≤_;omega)
       have hAH:Hid (Fra Bd b w (w2.setCell ⟨b,12,none⟩ (.int .i64 (symC c.gone code:Int))).drew):=((Fra.kept (k1.out.trans (k2.mono (by simp))) hup.out).trans (Fra.kept ((Kept.refl [b] _).setCell (p:=⟨b,12,none⟩) (by simp) _) h2.up)).drew
       have hfin:Hid (∀w9,Fra Bd b (w2.setCell ⟨b,12,none⟩ (.int .i64 (symC c.gone code:Int))).drew w9→(∃v',TM w9 b (CD.pre { c with ahead:=some (symC c.gone code) }) (CD.post { c with ahead:=some (symC c.gone code) }) 153 Bd (addStart (upSyms t) (symC c.gone code)) rv v')→TakeOut w w9 b Bd ({ c with ahead:=some (symC c.gone code) },takeT t c.gone none code F)):=fun w9 f9 ⟨v',t9⟩=>⟨⟨_,v',t9⟩,hAH.out.trans f9⟩
       clear hA h2 k1 k2 h1H
       go_wp2_with fail
       refine hsy.out.mono ?_
       rintro e wy ⟨rfl,rfl⟩
       go_wp2_with fail
       go_region_law (go_simp;go_at_call 60;refine hst.out.mono ?_;rintro _ w9 ⟨rfl,f9,t9⟩)
       all_goals
        have hout:Hid (TakeOut _ _ _ _ _):=hfin.out _ f9 t9
        clear f9 t9
        go_wp2
        go_end0
        exact ⟨rfl,hout.out⟩
def zwide (s:CD×TT):Nat:=widP (freeN s.2 s.1) s.1.most
def zgo (s:CD×TT):Bool:=!s.1.bad&&decide (s.1.p+zwide s≤8*s.1.B.size)
def zstep (s:CD×TT):CD×TT:=takeC { s.1 with p:=(numB s.1.B s.1.p (zwide s)).2 } s.2 (numB s.1.B s.1.p (zwide s)).1
def zit (s:CD×TT):Nat→CD×TT
 | 0=>s
 | n+1=>zstep (zit s n)
structure ZI (B:ByteArray) (most n:Nat) (s:CD×TT):Prop where
 bytes:s.1.B=B
 most:s.1.most=most
 p:9*n≤s.1.p
 pb:s.1.p≤8*B.size
 syms:s.2.syms=n
 rules:s.2.rules.length≤n
 start:s.2.start.length≤n
 gone:s.1.gone≤s.2.rules.length
 ahead:∀a,s.1.ahead=some a→a<256+s.2.rules.length
 first:∀x,x∈s.2.rules→x.pt.first≤255
theorem part_first {rs:List RU} (h:∀x,x∈rs→x.pt.first≤255) (s:Nat):(partAt rs s).first≤255:=by
 unfold partAt
 split
 · show s≤255;omega
 · cases hx:rs[s-256]? with
   | none=>show 0≤255;omega
   | some x=>exact h x (List.mem_of_getElem? hx)
theorem join_first {a b:PT} (ha:a.first≤255) (hb:b.first≤255):(joinP a b).first≤255:=by
 unfold joinP;split
 · exact hb
 · split
   · exact ha
   · exact ha
theorem ZI.fb {B:ByteArray} {m n:Nat} {s:CD×TT} (h:ZI B m n s) (a code F:Nat):firstC s.2 s.1.gone a code F≤255:=part_first h.first _
theorem ZI.step {B:ByteArray} {m n:Nat} {s:CD×TT} (h:ZI B m n s) (hg:zgo s=true):ZI B m (n+1) (zstep s):=by
 obtain ⟨c,t⟩:=s
 unfold zgo at hg
 simp only [Bool.and_eq_true,decide_eq_true_eq] at hg
 obtain ⟨_,hg⟩:=hg
 have h1:=h.bytes;have h2:=h.most;have h3:=h.p;have h4:=h.syms;have h5:=h.rules;have h6:=h.start;have h7:=h.gone;have h8:=h.ahead;have h9:=h.first
 have hb:=numB_bd c.B c.p (zwide (c,t))
 have hw:=widP_bd (freeN t c) c.most
 have ew:zwide (c,t)=widP (freeN t c) c.most:=rfl
 simp only [] at h1 h2 h3 h4 h5 h6 h7 h8 h9 hg
 have hfull:(numB c.B c.p (zwide (c,t))).2=c.p+zwide (c,t):=by
  have key:∀i,c.p+i≤8*c.B.size→(numB c.B c.p i).2=c.p+i:=by
   intro i
   induction i with
   | zero=>intro _;rfl
   | succ i ih=>
     intro hi
     show (nextB c.B (numB c.B c.p i).2).2=_
     rw [ih (by omega)]
     unfold nextB;rw [if_pos (by omega)];rfl
  exact key _ hg
 unfold zstep takeC
 simp only []
 generalize (numB c.B c.p (zwide (c,t))).1=code at *
 rw [hfull]
 have hpb:c.p+zwide (c,t)≤8*B.size:=by rw [←h1];exact hg
 split
 · exact ⟨h1,h2,by simp only [];omega,hpb,by simp only [upSyms];omega,by simp only [upSyms];omega,by simp only [upSyms];omega,Nat.le_refl _,(fun a ha=>nomatch ha),h9⟩
 · split
   · exact ⟨h1,h2,by simp only [];omega,hpb,by simp only [upSyms];omega,by simp only [upSyms];omega,by simp only [upSyms];omega,h7,h8,h9⟩
   · rename_i hne hbad
     have hnb:¬badC { c with p:=c.p+zwide (c,t) } code (freeN t { c with p:=c.p+zwide (c,t) }):=hbad
     unfold badC at hnb
     have eF:freeN t { c with p:=c.p+zwide (c,t) }=257+t.rules.length-c.gone:=rfl
     rw [eF] at hnb ⊢
     have hsy:symC c.gone code<256+t.rules.length+(if (joinsC { c with p:=c.p+zwide (c,t) } (257+t.rules.length-c.gone)).isSome then 1 else 0):=by
      have hle:code≤257+t.rules.length-c.gone:=by omega
      unfold symC
      cases hj:joinsC { c with p:=c.p+zwide (c,t) } (257+t.rules.length-c.gone) with
      | none=>
        have:code≠257+t.rules.length-c.gone:=fun hc=>hnb (Or.inr ⟨hc,hj⟩)
        simp only [Option.isSome]
        split <;> simp <;> omega
      | some a=>
        simp only [Option.isSome]
        split <;> simp <;> omega
     cases hj:joinsC { c with p:=c.p+zwide (c,t) } (257+t.rules.length-c.gone) with
     | none=>
       rw [hj] at hsy
       refine ⟨h1,h2,by simp only [];omega,hpb,by simp only [takeT,addStart,upSyms];omega,by simp only [takeT,addStart,upSyms];omega,by simp only [takeT,addStart,upSyms,List.length_append,List.length_singleton];omega,h7,fun a ha=>?_,h9⟩
       simp only [Option.some.injEq] at ha
       subst ha
       simpa [takeT,addStart,upSyms] using hsy
     | some a=>
       rw [hj] at hsy
       refine ⟨h1,h2,by simp only [];omega,hpb,by simp only [takeT,addStart,addRuleT,upSyms];omega,by simp only [takeT,addStart,addRuleT,upSyms,List.length_append,List.length_singleton];omega,by simp only [takeT,addStart,addRuleT,upSyms,List.length_append,List.length_singleton];omega,by simp only [takeT,addStart,addRuleT,upSyms,List.length_append,List.length_singleton];omega,fun b hb=>?_,fun x hx=>?_⟩
       · simp only [Option.some.injEq] at hb
         subst hb
         simp only [takeT,addStart,addRuleT,upSyms,List.length_append,List.length_singleton]
         simp at hsy
         omega
       · simp only [takeT,addStart,addRuleT,upSyms] at hx
         rcases List.mem_append.1 hx with hx | hx
         · exact h9 x hx
         · simp at hx
           subst hx
           exact join_first (part_first h9 _) (part_first h9 _)
def cd0 (f:ByteArray):CD:={ B:=f.extract 3 f.size,p:=0,most:=bt f 2 }
def z0 (f:ByteArray):CD×TT:=(cd0 f,{ kind:=90 })
theorem z0_inv (f:ByteArray):ZI (f.extract 3 f.size) (bt f 2) 0 (z0 f):=⟨rfl,rfl,Nat.le_refl _,Nat.zero_le _,rfl,Nat.le_refl _,Nat.le_refl _,Nat.le_refl _,(fun a ha=>nomatch ha),(fun x hx=>nomatch hx)⟩
structure ZRun (f:ByteArray) (n:Nat):Prop where
 on:∀i,i<n→zgo (zit (z0 f) i)=true
 off:zgo (zit (z0 f) n)=false
theorem zit_inv {f:ByteArray}:∀{n:Nat},(∀i,i<n→zgo (zit (z0 f) i)=true)→ZI (f.extract 3 f.size) (bt f 2) n (zit (z0 f) n)
 | 0,_=>z0_inv f
 | n+1,h=>(zit_inv (fun i hi=>h i (by omega))).step (h n (by omega))
theorem ZRun.one {f:ByteArray} {n m:Nat} (h:ZRun f n) (h':ZRun f m):n=m:=by
 rcases Nat.lt_trichotomy n m with hl | hl | hl
 · have:=h'.on n hl;rw [h.off] at this;cases this
 · exact hl
 · have:=h.on m hl;rw [h'.off] at this;cases this
def zOk (s:CD×TT):Bool:=!s.1.bad&&endB s.1.B s.1.p
def zMost (f:ByteArray):Bool:=decide (3≤f.size)&&decide (9≤bt f 2)&&decide (bt f 2≤12)
end Go.Proofs.YtgifhgnccmnbiabGreat
