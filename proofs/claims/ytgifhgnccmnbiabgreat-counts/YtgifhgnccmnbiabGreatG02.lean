/- The document's answer: members and lists. -/
import Derived.Test.YtgifhgnccmnbiabGreatG01
import Derived.Deep.DeepCutAuto
import Derived.Deep.Cut
import Derived.Deep.CutRange
set_option linter.unusedVariables false
set_option linter.unusedSimpArgs false
set_option maxHeartbeats 4000000
set_option maxRecDepth 100000
namespace Go.Proofs.YtgifhgnccmnbiabGreat
open Go.RowKit Go.IntWalk
theorem stands1 (b:Nat) (t:ByteArray) (s:RS) (w:World) (h:RR w b t s):
 Calls Tryz.prog 73 #[.pointer (some ⟨b,0,none⟩),.string ⟨#[93]⟩] w fun e w'=>e=.returned (.bool (stB t s [93]))∧RR w' b t s∧Kept [b] w w':=stands_any b t s _ w h (by decide)
theorem rmember_any (b:Nat) (t:ByteArray) (s:RS) (w:World) (h:RR w b t s):
 Calls Tryz.prog 117 #[.pointer (some ⟨b,0,none⟩)] w fun e w'=>e=.returned (.int .u8 (memR t s).1)∧RR w' b t (memR t s).2∧Kept [b] w w':=by
 by_cases hq:stB t s [93]=true
 · have e:memR t s=tkS t (takeS t 92 (markS s)).2:=by unfold memR;rw [if_pos hq]
   rw [e]
   clear e
   go_enter Tryz.func117,Tryz.ntmps117
   go_wp2_with fail
   refine (stands1 b t s _ h).mono ?_
   rintro e w1 ⟨rfl,h1,k1⟩
   have c1:=h1.c1
   have f1:=h1.f 1
   have h2:RR _ b t (markS s):=h1.mark
   go_wp2_with fail
   refine (rnext_any b 92 t _ _ h2 (by omega) (by omega)).mono ?_
   rintro e w3 ⟨rfl,h3,k3⟩
   go_wp2_with fail
   refine (rtake_any b t _ _ h3).mono ?_
   rintro e w4 ⟨rfl,h4,k4⟩
   go_wp2
   go_ret
   exact ⟨rfl,h4,((k1.trans ((Kept.refl _ _).setCell (by simp) _)).trans k3).trans k4⟩
 · have e:memR t s=tkS t (takeS t 92 s).2:=by unfold memR;rw [if_neg hq]
   have hq:stB t s [93]=false:=by simpa using hq
   rw [e]
   clear e
   go_enter Tryz.func117,Tryz.ntmps117
   go_wp2_with fail
   refine (stands1 b t s _ h).mono ?_
   rintro e w1 ⟨rfl,h1,k1⟩
   go_wp2_with fail
   refine (rnext_any b 92 t _ _ h1 (by omega) (by omega)).mono ?_
   rintro e w3 ⟨rfl,h3,k3⟩
   go_wp2_with fail
   refine (rtake_any b t _ _ h3).mono ?_
   rintro e w4 ⟨rfl,h4,k4⟩
   go_wp2
   go_ret
   exact ⟨rfl,h4,(k1.trans k3).trans k4⟩
def boolCells (f:Nat→Bool):Array Value:=((List.range 256).map (fun i=>Value.bool (f i))).toArray
theorem boolCells_get (f:Nat→Bool) {i:Nat} (h:i<256):(boolCells f)[i]?=some (.bool (f i)):=by simp [boolCells,h]
theorem boolCells_set (f f':Nat→Bool) (i:Nat) (h:∀j,j<256→f' j=if j=i then true else f j):(boolCells f).setIfInBounds i (.bool true)=boolCells f':=by
 apply Array.ext
 · simp [boolCells]
 · intro j h1 h2
   have hj:j<256:=by simpa [boolCells] using h2
   rw [Array.getElem_setIfInBounds (by simpa [boolCells] using hj)]
   simp only [boolCells,List.getElem_toArray,List.getElem_map,List.getElem_range]
   rw [h j hj]
   by_cases hji:i=j
   · subst hji;simp
   · rw [if_neg hji,if_neg (by omega)]
theorem sec_false1 {t:ByteArray} {s:RS} (h:¬s.1+1<t.size):secS t s=false:=by
 unfold secS
 rw [pk_ge (p:=s.1+1) h]
 simp
theorem sec_eq {t:ByteArray} {s:RS} (h:s.1+1<t.size):secS t s=((t[s.1].toNat:Int)==45&&((t[s.1+1].toNat:Int) != 93)):=by
 unfold secS
 rw [pk_lt (p:=s.1) (by omega),pk_lt h]
 have:((t[s.1+1].toNat:Int) != -1)=true:=by rw [bne_iff_ne];omega
 rw [this]
 simp
structure LM (w0 w:World) (b a g:Nat) (t:ByteArray) (neg:Bool) (s:RS) (f:Nat→Bool):Prop where
 rr:RR w b t s
 part:Blk w a #[.int .i64 1,.slice (some ⟨g,0,none⟩) 256 256,.bool neg,.slice none 0 0,.int .i64 0,.int .i64 0] 164
 ins:Blk w g (boolCells f) 4
 kept:Kept [b,a,g] w0 w
section
variable {w0 w w':World} {b a g:Nat} {t:ByteArray} {neg:Bool} {s s':RS} {f f':Nat→Bool}
theorem LM.scan (h:LM w0 w b a g t neg s f) (r:RR w' b t s') (k:Kept [b] w w') (ha:a≠b) (hg:g≠b):LM w0 w' b a g t neg s' f:=
 ⟨r,h.part.kept k (by simpa using ha),h.ins.kept k (by simpa using hg),h.kept.trans (k.mono (by simp))⟩
theorem LM.c1 (h:LM w0 w b a g t neg s f):w.cell? ⟨a,1,none⟩=some (.slice (some ⟨g,0,none⟩) 256 256):=by rw [h.part.cell];rfl
theorem LM.set (h:LM w0 w b a g t neg s f) (hg:g≠b) (hag:a≠g) (i:Nat) (hi:∀j,j<256→f' j=if j=i then true else f j):
 LM w0 (w.setCell ⟨g,i,none⟩ (.bool true)) b a g t neg s f':=
 ⟨⟨Blk.other h.rr.blk _ _ (by omega),h.rr.fits,h.rr.small⟩,Blk.other h.part _ _ hag,by rw [←boolCells_set f f' i hi];exact h.ins.set i _,h.kept.setCell (by simp) _⟩
end
def leftW (w:World) (b:Nat):Nat:=match w.cell? ⟨b,1,none⟩,w.cell? ⟨b,0,none⟩ with | some (.bool false),some (.string x)=>x.size+1 | _,_=>0
theorem leftW_eq {w:World} {b:Nat} {t:ByteArray} {s:RS} (h:RR w b t s):leftW w b=leftR t s:=by
 unfold leftW leftR
 rw [h.c0,h.c1]
 cases s.2 with
 | false=>simp [sfx_size]
 | true=>simp
theorem rlist_any (b a g:Nat) (t:ByteArray) (s:RS) (w:World) (h:RR w b t s)
 (ha:Blk w a #[.int .i64 1,.slice (some ⟨g,0,none⟩) 256 256,.bool false,.slice none 0 0,.int .i64 0,.int .i64 0] 164) (hg:Blk w g (boolCells (fun _=>false)) 4)
 (hab:a≠b) (hgb:g≠b) (hag:a≠g):
 Calls Tryz.prog 112 #[.pointer (some ⟨b,0,none⟩),.pointer (some ⟨a,0,none⟩)] w fun e w'=>e=.returned (.tuple #[]) ∧
  LM w w' b a g t (takeS t 94 s).1 (itemsR t (takeS t 94 s).2 (fun _=>false)).1 (itemsR t (takeS t 94 s).2 (fun _=>false)).2:=by
 have hsm:Hid (t.size≤40):=h.small
 go_enter Tryz.func112,Tryz.ntmps112
 go_wp2_with fail
 refine (rnext_any b 94 t s _ h (by omega) (by omega)).mono ?_
 rintro e w1 ⟨rfl,h1,k1⟩
 have a1:=ha.kept k1 (by simpa using hab)
 have g1:=hg.kept k1 (by simpa using hgb)
 have q0:=a1.frozen 2
 have q1:=a1.cell 2
 have m1:LM w (w1.setCell ⟨a,2,none⟩ (.bool (takeS t 94 s).1)) b a g t (takeS t 94 s).1 (takeS t 94 s).2 (fun _=>false):=
  ⟨⟨Blk.other h1.blk _ _ (Ne.symm hab),h1.fits,h1.small⟩,a1.set 2 _,Blk.other g1 _ _ (Ne.symm hag),(k1.mono (by simp)).setCell (by simp) _⟩
 clear h ha hg h1 a1 g1
 go_wp2_with fail
 go_loopw [4] (fun cl wr=>∃(c:Bool) (s':RS) (f':Nat→Bool),cl=.bool c∧LM w wr b a g t (takeS t 94 s).1 s' f'∧((c=false∧itemsR t s' f'=itemsR t (takeS t 94 s).2 (fun _=>false))∨(c=true∧(s',f')=itemsR t (takeS t 94 s).2 (fun _=>false))))
  (fun _ wr=>leftW wr b)
 case atStart=>exact ⟨false,_,_,rfl,m1,Or.inl ⟨rfl,rfl⟩⟩
 case round=>
  obtain ⟨c,s',f',rfl,m,hc⟩:=hrel
  obtain ⟨wo,rfl⟩:∃wo:World,wo=wr:=⟨_,rfl⟩
  have hlw:Hid (_=_):=leftW_eq m.rr
  rcases hc with ⟨rfl,hc⟩ | ⟨rfl,hc⟩
  case inr=>
   have hc:Hid (_=_):=hc
   go_wp2
   go_end0
   refine ⟨rfl,?_⟩
   rw [←hc.out]
   exact m
  have c1:=m.rr.c1
  by_cases hbad:s'.2=true
  · have hc:Hid ((s',f')=itemsR t (takeS t 94 s).2 (fun _=>false)):=(itemsR_bad hbad).symm.trans hc
    rw [hbad] at c1
    clear hbad
    go_wp2
    go_end0
    refine ⟨rfl,?_⟩
    rw [←hc.out]
    exact m
  have hbad:s'.2=false:=by simpa using hbad
  have hfit:=m.rr.fits
  have hdown:Hid (_<_):=leftR_down (f:=f') hfit hbad
  have hcE:Hid (∀hcl:(takeS t 93 (itemR t s' f').1).1=true,_):=fun hcl=>(itemsR_end hbad hcl).symm.trans hc
  have hcO:Hid (∀hcl:(takeS t 93 (itemR t s' f').1).1=false,_):=fun hcl=>(itemsR_on hfit hbad hcl).symm.trans hc
  rw [hbad] at c1
  clear hbad hc
  go_wp2_with fail
  refine (rmember_any b t s' _ m.rr).mono ?_
  rintro e w2 ⟨rfl,h2,k2⟩
  have m2:=m.scan h2 k2 hab hgb
  have c2:=m2.rr.c0
  go_upto_region 5 with fail
  go_cut [46] (fun s46 wx=>s46=.bool (secS t (memR t s').2)∧wx=w2)
  case first=>
   by_cases hp:(memR t s').2.1+1<t.size
   · have hl:(1:Int)<((sfx t (memR t s').2.1).size:Int):=by rw [sfx_size];omega
     have hl':1<(sfx t (memR t s').2.1).size:=by omega
     have hg0:=sfx_get (t:=t) (p:=(memR t s').2.1) (k:=0) (by omega) (by omega)
     have hg1:=sfx_get (t:=t) (p:=(memR t s').2.1) (k:=1) (by omega) (by omega)
     have hse:=sec_eq (t:=t) (s:=(memR t s').2) hp
     cases e0:((t[(memR t s').2.1].toNat:Int)==45) with
     | false=>
       rw [e0,Bool.false_and] at hse
       have hse:Hid (_=_):=hse
       go_wp2
       all_goals go_meet
       all_goals exact ⟨by rw [hse.out],rfl⟩
     | true=>
       cases e1:((t[(memR t s').2.1+1].toNat:Int) != 93) with
       | false=>
         rw [e0,e1,Bool.true_and] at hse
         have hse:Hid (_=_):=hse
         go_wp2
         all_goals go_meet
         all_goals exact ⟨by rw [hse.out],rfl⟩
       | true=>
         rw [e0,e1,Bool.true_and] at hse
         have hse:Hid (_=_):=hse
         go_wp2
         all_goals go_meet
         all_goals exact ⟨by rw [hse.out],rfl⟩
   · have hl:¬(1:Int)<((sfx t (memR t s').2.1).size:Int):=by rw [sfx_size];omega
     have hse:Hid (_=_):=sec_false1 (t:=t) (s:=(memR t s').2) hp
     go_wp2
     all_goals go_meet
     all_goals refine ⟨?_,rfl⟩
     all_goals rw [hse.out]
  case rest=>
   obtain ⟨rfl,rfl⟩:=hcut
   go_upto_if 46 with fail
   have hfit2:=h2.fits
   go_cut [6] (fun s6 wx=>s6=.int .u8 (toR t s').1∧LM w wx b a g t (takeS t 94 s).1 (toR t s').2 f')
   case first=>
    go_wp2_with fail
    · have hq:secS t (memR t s').2=true:=by assumption
      have e:Hid (_=_):=show toR t s'=memR t (tkS t (memR t s').2).2 from if_pos hq
      refine (rtake_any b t _ _ h2).mono ?_
      rintro e1 w3 ⟨rfl,h3,k3⟩
      go_wp2_with fail
      refine (rmember_any b t _ _ h3).mono ?_
      rintro e1 w4 ⟨rfl,h4,k4⟩
      go_wp2_with fail
      go_meet
      rw [e.out]
      exact ⟨rfl,m2.scan h4 (k3.trans k4) hab hgb⟩
    · have hq:secS t (memR t s').2=false:=by assumption
      have e:Hid (_=_):=show toR t s'=memR t s' from if_neg (by rw [hq];decide)
      go_meet
      rw [e.out]
      exact ⟨rfl,m2⟩
   case rest=>
    obtain ⟨rfl,m3⟩:=hcut
    clear m2 k2 h2 c2 m hfit2
    go_upto_if 53 with fail
    have r1:=m3.rr.c1
    have r2:=m3.rr.f 1
    go_cut [] (fun wx=>LM w wx b a g t (takeS t 94 s).1 (itemR t s' f').1 f')
    case first=>
     go_wp2_with fail
     · have hq:(toR t s').1<(memR t s').1:=by assumption
       have e:Hid ((itemR t s' f').1=markS (toR t s').2):=if_pos hq
       go_meet
       rw [e.out]
       exact ⟨m3.rr.mark,Blk.other m3.part _ _ hab,Blk.other m3.ins _ _ hgb,m3.kept.setCell (by simp) _⟩
     · have hq:¬(toR t s').1<(memR t s').1:=by omega
       have e:Hid ((itemR t s' f').1=(toR t s').2):=if_neg hq
       go_meet
       rw [e.out]
       exact m3
    case rest=>
     have m4:=hcut
     clear hcut m3 r1 r2
     have bd1:=memR_bd t s'
     have bd2:=toR_bd t s'
     go_wp2_with fail
     go_loopw [7] (fun c wr=>∃k:Int,c=.int .i64 k∧(memR t s').1≤k∧(k≤(toR t s').1+1∨k=(memR t s').1)∧LM w wr b a g t (takeS t 94 s).1 (itemR t s' f').1 (fillB f' (memR t s').1 (k-1)))
      (fun c _=>((toR t s').1+1-intOf c).toNat)
     case atStart=>
      refine ⟨_,rfl,Int.le_refl _,Or.inr rfl,?_⟩
      have e:fillB f' (memR t s').1 ((memR t s').1-1)=f':=by
       funext i
       unfold fillB
       rw [decide_eq_false (by omega),Bool.or_false]
      rw [e]
      exact m4
     case round=>
      obtain ⟨k,rfl,hk1,hk2,m5⟩:=hrel
      have d1:=m5.c1
      obtain ⟨n,rfl⟩:=Int.eq_ofNat_of_zero_le (show 0≤k by omega)
      by_cases hle:(n:Int)≤(toR t s').1
      · have hn:n<256:=by omega
        have d2:wr.cell? ⟨g,n,none⟩=some (.bool (fillB f' (memR t s').1 ((n:Int)-1) n)):=by rw [m5.ins.cell,boolCells_get _ hn]
        have d3:=m5.ins.frozen n
        have m6:=m5.set (f':=fillB f' (memR t s').1 (((n+1:Nat):Int)-1)) hgb hag n (fun j hj=>by
         unfold fillB
         by_cases hjn:j=n
         · subst hjn
           rw [if_pos rfl,decide_eq_true (by omega),Bool.or_true]
         · rw [if_neg hjn]
           congr 1
           apply decide_eq_decide.2
           omega)
        have m6:Hid (LM _ _ _ _ _ _ _ _ _):=m6
        go_wp2
        refine ⟨⟨((n+1:Nat):Int),by go_num,by omega,by omega,m6.out⟩,?_⟩
        simp only [intOf]
        omega
      · have e:fillB f' (memR t s').1 ((n:Int)-1)=(itemR t s' f').2:=by
         show _=fillB f' (memR t s').1 (toR t s').1
         funext i
         unfold fillB
         congr 1
         apply decide_eq_decide.2
         omega
        rw [e] at m5
        clear e
        go_wp2_with fail
        refine (rnext_any b 93 t _ _ m5.rr (by omega) (by omega)).mono ?_
        rintro e1 w7 ⟨rfl,h7,k7⟩
        have m7:=m5.scan h7 k7 hab hgb
        have hlw7:=leftW_eq h7
        have hlw7:Hid (_=_):=hlw7
        go_wp2
        refine ⟨⟨_,_,_,rfl,m7,?_⟩,by rw [hlw7.out,hlw.out];exact hdown.out⟩
        cases hcl:(takeS t 93 (itemR t s' f').1).1 with
        | false=>exact Or.inl ⟨rfl,hcO.out hcl⟩
        | true=>exact Or.inr ⟨rfl,hcE.out hcl⟩
structure BM (w0 w:World) (b a:Nat) (t:ByteArray) (kv:Value) (s:RS) (least most:Int):Prop where
 rr:RR w b t s
 part:Blk w a #[.int .i64 6,.slice none 0 0,.bool false,kv,.int .i64 least,.int .i64 most] 164
 kept:Kept [b,a] w0 w
section
variable {w0 w w':World} {b a:Nat} {t:ByteArray} {kv:Value} {s s':RS} {l m:Int}
theorem BM.scan (h:BM w0 w b a t kv s l m) (r:RR w' b t s') (k:Kept [b] w w') (ha:a≠b):BM w0 w' b a t kv s' l m:=
 ⟨r,h.part.kept k (by simpa using ha),h.kept.trans (k.mono (by simp))⟩
theorem BM.least (h:BM w0 w b a t kv s l m) (ha:a≠b) (x:Int):BM w0 (w.setCell ⟨a,4,none⟩ (.int .i64 x)) b a t kv s x m:=
 ⟨⟨Blk.other h.rr.blk _ _ (Ne.symm ha),h.rr.fits,h.rr.small⟩,h.part.set 4 _,h.kept.setCell (by simp) _⟩
theorem BM.most (h:BM w0 w b a t kv s l m) (ha:a≠b) (x:Int):BM w0 (w.setCell ⟨a,5,none⟩ (.int .i64 x)) b a t kv s l x:=
 ⟨⟨Blk.other h.rr.blk _ _ (Ne.symm ha),h.rr.fits,h.rr.small⟩,h.part.set 5 _,h.kept.setCell (by simp) _⟩
theorem BM.mark (h:BM w0 w b a t kv s l m) (ha:a≠b):BM w0 (w.setCell ⟨b,1,none⟩ (.bool true)) b a t kv (markS s) l m:=
 ⟨h.rr.mark,Blk.other h.part _ _ ha,h.kept.setCell (by simp) _⟩
theorem BM.drewN (h:BM w0 w b a t kv s l m) (n:Nat):BM w0 (w.drewN n) b a t kv s l m:=⟨⟨h.rr.blk,h.rr.fits,h.rr.small⟩,h.part,h.kept.drewN n⟩
theorem BM.c4 (h:BM w0 w b a t kv s l m):w.cell? ⟨a,4,none⟩=some (.int .i64 l):=by rw [h.part.cell];rfl
theorem BM.c5 (h:BM w0 w b a t kv s l m):w.cell? ⟨a,5,none⟩=some (.int .i64 m):=by rw [h.part.cell];rfl
end
theorem bndMost_end {t:ByteArray} {s:RS} (h1:(takeS t 44 (tkS t s).2).1=true) (h2:(takeS t 125 (takeS t 44 (tkS t s).2).2).1=true):
 bndMost t s=(-1,takeS t 125 (takeS t 44 (tkS t s).2).2):=by unfold bndMost;simp only [];rw [if_pos ⟨h1,h2⟩]
theorem bndMost_two {t:ByteArray} {s:RS} (h1:(takeS t 44 (tkS t s).2).1=true) (h2:(takeS t 125 (takeS t 44 (tkS t s).2).2).1=false):
 bndMost t s=(let n:=tkS t (takeS t 125 (takeS t 44 (tkS t s).2).2).2
  let e:=takeS t 125 n.2
  (n.1-48,(e.1,if n.1<48∨57<n.1∨n.1-48<(tkS t s).1-48 then markS e.2 else e.2))):=by
 unfold bndMost;simp only [];rw [if_neg (by rw [h2];simp),if_pos h1]
theorem bndMost_one {t:ByteArray} {s:RS} (h1:(takeS t 44 (tkS t s).2).1=false):bndMost t s=((tkS t s).1-48,takeS t 125 (takeS t 44 (tkS t s).2).2):=by
 unfold bndMost;simp only [];rw [if_neg (by rw [h1];simp),if_neg (by rw [h1];simp)]
theorem rbounds_any (b a:Nat) (t:ByteArray) (kv:Value) (s:RS) (w:World) (h:RR w b t s)
 (ha:Blk w a #[.int .i64 6,.slice none 0 0,.bool false,kv,.int .i64 0,.int .i64 (-1)] 164) (hab:a≠b):
 Calls Tryz.prog 102 #[.pointer (some ⟨b,0,none⟩),.pointer (some ⟨a,0,none⟩)] w fun e w'=>e=.returned (.tuple #[]) ∧
  BM w w' b a t kv (bndR t s).2 (bndR t s).1.1 (bndR t s).1.2:=by
 have bd1:=tk_bd t s
 have m0:BM w w b a t kv s 0 (-1):=⟨h,ha,Kept.refl _ _⟩
 clear ha
 go_enter Tryz.func102,Tryz.ntmps102
 go_wp2_with fail
 refine (rtake_any b t s _ h).mono ?_
 rintro e w1 ⟨rfl,h1,k1⟩
 have m1:=m0.scan h1 k1 hab
 have q1:=m1.c4
 have q2:=m1.c5
 have q3:=m1.part.frozen 4
 have q4:=m1.part.frozen 5
 have m2:=(m1.least hab ((tkS t s).1-48)).most hab ((tkS t s).1-48)
 clear h m0 h1 k1
 go_wp2_with fail
 refine (rnext_any b 44 t _ _ m2.rr (by omega) (by omega)).mono ?_
 rintro e w3 ⟨rfl,h3,k3⟩
 have m3:=m2.scan h3 k3 hab
 go_wp2_with fail
 refine (rnext_any b 125 t _ _ m3.rr (by omega) (by omega)).mono ?_
 rintro e w4 ⟨rfl,h4,k4⟩
 have m4:=m3.scan h4 k4 hab
 clear m1 m2 m3 h3 h4 k3 k4 q1 q2 q3 q4
 have q3:=m4.part.frozen 4
 have q4:=m4.part.frozen 5
 have q1:=m4.c4
 have q2:=m4.c5
 go_upto_region 5 with fail
 go_cut [5,6,30] (fun s5 s6 s30 wx=>s5=.bool (takeS t 44 (tkS t s).2).1∧s6=.bool (takeS t 125 (takeS t 44 (tkS t s).2).2).1∧s30=.bool ((takeS t 44 (tkS t s).2).1&&(takeS t 125 (takeS t 44 (tkS t s).2).2).1)∧wx=w4)
 case first=>
  cases hc:(takeS t 44 (tkS t s).2).1 with
  | false=>
    go_wp2
    go_meet
    exact ⟨by rw [hc],rfl,by rw [hc];rfl,rfl⟩
  | true=>
    go_wp2
    go_meet
    exact ⟨by rw [hc],rfl,by rw [hc];rfl,rfl⟩
 case rest=>
  obtain ⟨rfl,rfl,rfl,rfl⟩:=hcut
  go_upto_if 30 with fail
  go_cut [5,6,7] (fun s5 s6 s7 wx=>s5=.bool (takeS t 44 (tkS t s).2).1∧s6=.bool (bndMost t s).2.1∧BM w wx b a t kv (bndMost t s).2.2 ((tkS t s).1-48) (bndMost t s).1)
  case first=>
   go_wp2_with fail
   · have hcd:(takeS t 44 (tkS t s).2).1=true∧(takeS t 125 (takeS t 44 (tkS t s).2).2).1=true:=by assumption
     have e:Hid (_=_):=bndMost_end hcd.1 hcd.2
     have m5:=m4.most hab (-1)
     go_meet
     rw [e.out]
     exact ⟨rfl,by rw [hcd.2],m5⟩
   · have hc:(takeS t 44 (tkS t s).2).1=true:=by assumption
     have hd:(takeS t 125 (takeS t 44 (tkS t s).2).2).1=false:=by
      have hor:(takeS t 44 (tkS t s).2).1=false∨(takeS t 125 (takeS t 44 (tkS t s).2).2).1=false:=by assumption
      rcases hor with hx | hx
      · rw [hc] at hx;cases hx
      · exact hx
     have e:Hid (_=_):=bndMost_two hc hd
     have bdn:=tk_bd t (takeS t 125 (takeS t 44 (tkS t s).2).2).2
     refine (rtake_any b t _ _ m4.rr).mono ?_
     rintro e5 w5 ⟨rfl,h5,k5⟩
     have m5:=m4.scan h5 k5 hab
     have g1:=m5.c5
     have g2:=m5.part.frozen 5
     have m6:=m5.most hab ((tkS t (takeS t 125 (takeS t 44 (tkS t s).2).2).2).1-48)
     go_wp2_with fail
     refine (rnext_any b 125 t _ _ m6.rr (by omega) (by omega)).mono ?_
     rintro e7 w7 ⟨rfl,h7,k7⟩
     have m7:=m6.scan h7 k7 hab
     clear m4 m5 m6 g1 g2 q1 q2 q3 q4
     have g1:=m7.c5
     have g2:=m7.c4
     have g3:=m7.rr.c1
     have g4:=m7.rr.f 1
     have mk:=fun n=>(m7.drewN n).mark hab
     generalize hn:(tkS t (takeS t 125 (takeS t 44 (tkS t s).2).2).2)=n at *
     have hn:Hid (_=_):=hn
     have hc:Hid (_=_):=hc
     go_upto_region 11 with fail
     go_cut [61] (fun s61 wx=>s61=.bool (decide (n.1<48) || decide (57<n.1) || decide (n.1-48<(tkS t s).1-48))∧∃k,wx=w7.drewN k)
     case first=>
      clear m7 mk g3 g4 k7 h7 h5 e hn
      by_cases l1:n.1<48
      · have d1:decide (n.1<48)=true:=by simpa using l1
        go_quiet (fail)
        try go_wp2_with fail
        go_meet
        exact ⟨by simp [l1],_,rfl⟩
      have d1:decide (n.1<48)=false:=by simpa using l1
      by_cases l2:57<n.1
      · have d2:decide (57<n.1)=true:=by simpa using l2
        go_quiet (fail)
        try go_wp2_with fail
        go_meet
        exact ⟨by simp [l2],_,rfl⟩
      have d2:decide (57<n.1)=false:=by simpa using l2
      go_quiet (fail)
      try go_wp2_with fail
      go_meet
      exact ⟨by rw [d1,d2,Bool.false_or,Bool.false_or];congr 1;apply decide_eq_decide.2;omega,_,rfl⟩
     case rest=>
      obtain ⟨rfl,k,rfl⟩:=hcut
      have g3:(w7.drewN k).cell? ⟨b,1,none⟩=some (.bool (takeS t 125 n.2).2.2):=g3
      have g4:(w7.drewN k).frozen? ⟨b,1,none⟩=false:=g4
      go_wp2_with fail
      · go_meet
        rw [e.out]
        simp only []
        rw [if_pos (by omega)]
        exact ⟨by rw [hc.out],by first | rfl | trivial,mk _⟩
      · go_meet
        rw [e.out]
        simp only []
        rw [if_neg (by omega)]
        exact ⟨by rw [hc.out],by first | rfl | trivial,m7.drewN _⟩
   · have hc:(takeS t 44 (tkS t s).2).1=false:=by assumption
     have e:Hid (_=_):=bndMost_one hc
     go_meet
     rw [e.out]
     exact ⟨rfl,rfl,m4⟩
  case rest=>
   obtain ⟨rfl,rfl,m5⟩:=hcut
   have g3:=m5.rr.c1
   have g4:=m5.rr.f 1
   have mk:=m5.mark hab
   by_cases l1:(tkS t s).1<48
   · have e:Hid ((bndR t s).2=markS (bndMost t s).2.2):=if_pos (Or.inl l1)
     go_wp2
     go_end0
     refine ⟨rfl,?_⟩
     rw [e.out]
     exact mk
   by_cases l2:57<(tkS t s).1
   · have e:Hid ((bndR t s).2=markS (bndMost t s).2.2):=if_pos (Or.inr (Or.inl l2))
     go_wp2
     go_end0
     refine ⟨rfl,?_⟩
     rw [e.out]
     exact mk
   cases hcl:(bndMost t s).2.1 with
   | false=>
     have e:Hid ((bndR t s).2=markS (bndMost t s).2.2):=if_pos (Or.inr (Or.inr hcl))
     go_wp2
     go_end0
     refine ⟨rfl,?_⟩
     rw [e.out]
     exact mk
   | true=>
     have e:Hid ((bndR t s).2=(bndMost t s).2.2):=if_neg (by rw [hcl];simp;omega)
     go_wp2
     go_end0
     refine ⟨rfl,?_⟩
     rw [e.out]
     exact m5
structure RD (w:World) (b:Nat) (t:ByteArray) (s:RS) (v:Value):Prop where
 blk:Blk w b #[.string t,.int .i64 (s.1:Int),v,.bool s.2] 145
 fits:Fits t s
 small:t.size≤40
section
variable {w w':World} {b p:Nat} {t:ByteArray} {s:RS} {v:Value} {bad:Bool}
theorem RD.c0 (h:RD w b t s v):w.cell? ⟨b,0,none⟩=some (.string t):=by rw [Blk.cell h.blk];rfl
theorem RD.c1 (h:RD w b t s v):w.cell? ⟨b,1,none⟩=some (.int .i64 (s.1:Int)):=by rw [Blk.cell h.blk];rfl
theorem RD.c2 (h:RD w b t s v):w.cell? ⟨b,2,none⟩=some v:=by rw [Blk.cell h.blk];rfl
theorem RD.c3 (h:RD w b t s v):w.cell? ⟨b,3,none⟩=some (.bool s.2):=by rw [Blk.cell h.blk];rfl
theorem RD.f (h:RD w b t s v) (j:Nat):w.frozen? ⟨b,j,none⟩=false:=Blk.frozen h.blk j
theorem RD.upto (h:RD w b t s v) (p:Nat) (hp:p≤t.size):RD (w.setCell ⟨b,1,none⟩ (.int .i64 (p:Int))) b t (p,s.2) v:=⟨Blk.set h.blk 1 _,hp,h.small⟩
theorem RD.mark (h:RD w b t s v):RD (w.setCell ⟨b,3,none⟩ (.bool true)) b t (s.1,true) v:=⟨Blk.set h.blk 3 _,h.fits,h.small⟩
theorem RD.kept {S:List Nat} (h:RD w b t s v) (k:Kept S w w') (hb:¬b∈S):RD w' b t s v:=⟨Blk.kept h.blk k hb,h.fits,h.small⟩
end
theorem peek_any (b k:Nat) (t:ByteArray) (s:RS) (v:Value) (w:World) (h:RD w b t s v) (hk:k≤1):
 Calls Tryz.prog 106 #[.pointer (some ⟨b,0,none⟩),.int .i64 (k:Int)] w fun e w'=>e=.returned (.int .i64 (pk t (s.1+k)))∧w'=w:=by
 have h0:=h.c0
 have h1:=h.c1
 have hp:=h.fits
 have hs:=h.small
 obtain ⟨p,bad⟩:=s
 simp only [Fits] at hp
 clear h
 by_cases hlt:p+k<t.size
 · go_enter Tryz.func106,Tryz.ntmps106
   go_wp2
   go_ret
   exact ⟨ret_int (by rw [pk_lt hlt];have:=t[p+k].toNat_lt;exact wrap64_in _ (by omega)),rfl⟩
 · go_enter Tryz.func106,Tryz.ntmps106
   go_wp2
   go_ret
   exact ⟨ret_int (by rw [pk_ge hlt]),rfl⟩
theorem peek0 (b:Nat) (t:ByteArray) (s:RS) (v:Value) (w:World) (h:RD w b t s v):
 Calls Tryz.prog 106 #[.pointer (some ⟨b,0,none⟩),.int .i64 0] w fun e w'=>e=.returned (.int .i64 (pk t s.1))∧w'=w:=peek_any b 0 t s v w h (by omega)
theorem peek1 (b:Nat) (t:ByteArray) (s:RS) (v:Value) (w:World) (h:RD w b t s v):
 Calls Tryz.prog 106 #[.pointer (some ⟨b,0,none⟩),.int .i64 1] w fun e w'=>e=.returned (.int .i64 (pk t (s.1+1)))∧w'=w:=peek_any b 1 t s v w h (by omega)
theorem fail_any (b:Nat) (t:ByteArray) (s:RS) (v:Value) (w:World) (h:RD w b t s v):
 Calls Tryz.prog 55 #[.pointer (some ⟨b,0,none⟩)] w fun e w'=>e=.returned (.tuple #[])∧RD w' b t (failS t) v∧Kept [b] w w':=by
 have h0:=h.c0
 have h1:=h.c1
 have h3:=h.c3
 have f1:=h.f 1
 have f3:=h.f 3
 have hs:=h.small
 go_enter Tryz.func55,Tryz.ntmps55
 go_wp2
 go_end0
 exact ⟨rfl,h.mark.upto _ (Nat.le_refl _),((Kept.refl _ _).setCell (by simp) _).setCell (by simp) _⟩
theorem next_any (b:Nat) (t:ByteArray) (s:RS) (v:Value) (w:World) (h:RD w b t s v):
 Calls Tryz.prog 118 #[.pointer (some ⟨b,0,none⟩)] w fun e w'=>e=.returned (.int .i64 (nextS t s).1)∧RD w' b t (nextS t s).2 v∧Kept [b] w w':=by
 have h1:=h.c1
 have f1:=h.f 1
 have hp:=h.fits
 have hs:=h.small
 simp only [Fits] at hp
 by_cases hn:pk t s.1 = -1
 · have hb:(pk t s.1==-1)=true:=by rw [hn];rfl
   have e:nextS t s=(0,failS t):=if_pos hn
   rw [e]
   clear hn e
   go_enter Tryz.func118,Tryz.ntmps118
   go_wp2_with (first | (go_at_call 106;refine (peek0 b t s v _ h).mono ?_;rintro e w' ⟨rfl,rfl⟩) | (go_at_call 55;refine (fail_any b t s v _ h).mono ?_;rintro e w' ⟨rfl,h',k'⟩))
   go_ret
   exact ⟨rfl,h',k'⟩
 · have hb:(pk t s.1==-1)=false:=by simpa using hn
   have e:nextS t s=(pk t s.1,(s.1+1,s.2)):=if_neg hn
   have hl:s.1<t.size:=by rw [pk_none] at hn;omega
   rw [e]
   clear hn e
   go_enter Tryz.func118,Tryz.ntmps118
   go_wp2_with (first | (go_at_call 106;refine (peek0 b t s v _ h).mono ?_;rintro e w' ⟨rfl,rfl⟩))
   go_ret
   exact ⟨rfl,h.upto (s.1+1) (by omega),(Kept.refl _ _).setCell (by simp) _⟩
theorem take_any (b:Nat) (c:Int) (t:ByteArray) (s:RS) (v:Value) (w:World) (h:RD w b t s v) (hc:0≤c) (hc':c≤255):
 Calls Tryz.prog 82 #[.pointer (some ⟨b,0,none⟩),.int .i64 c] w fun e w'=>e=.returned (.bool (takeS t c s).1)∧RD w' b t (takeS t c s).2 v∧Kept [b] w w':=by
 have h1:=h.c1
 have f1:=h.f 1
 have hp:=h.fits
 have hs:=h.small
 simp only [Fits] at hp
 by_cases hn:pk t s.1=c
 · have hb:(pk t s.1 != c)=false:=by rw [hn];simp
   have e:takeS t c s=(true,(s.1+1,s.2)):=if_pos hn
   have hl:s.1<t.size:=pk_some (by omega)
   rw [e]
   clear hn e
   go_enter Tryz.func82,Tryz.ntmps82
   go_wp2_with (first | (go_at_call 106;refine (peek0 b t s v _ h).mono ?_;rintro e w' ⟨rfl,rfl⟩))
   go_ret
   exact ⟨rfl,h.upto (s.1+1) (by omega),(Kept.refl _ _).setCell (by simp) _⟩
 · have hb:(pk t s.1 != c)=true:=by simpa using hn
   have e:takeS t c s=(false,s):=if_neg hn
   rw [e]
   clear hn e
   go_enter Tryz.func82,Tryz.ntmps82
   go_wp2_with (first | (go_at_call 106;refine (peek0 b t s v _ h).mono ?_;rintro e w' ⟨rfl,rfl⟩))
   go_ret
   exact ⟨rfl,h,Kept.refl _ _⟩
theorem atEnd_any (b:Nat) (t:ByteArray) (s:RS) (v:Value) (w:World) (h:RD w b t s v):
 Calls Tryz.prog 103 #[.pointer (some ⟨b,0,none⟩)] w fun e w'=>e=.returned (.bool (endS t s))∧w'=w:=by
 go_enter Tryz.func103,Tryz.ntmps103
 go_wp2_with (first | (go_at_call 106;refine (peek0 b t s v _ h).mono ?_;rintro e w' ⟨rfl,rfl⟩))
 all_goals go_ret
 all_goals exact ⟨ret_bool (by simp [endS, *]),rfl⟩
theorem atRep_any (b:Nat) (t:ByteArray) (s:RS) (v:Value) (w:World) (h:RD w b t s v):
 Calls Tryz.prog 114 #[.pointer (some ⟨b,0,none⟩)] w fun e w'=>e=.returned (.bool (repS t s))∧w'=w:=by
 go_enter Tryz.func114,Tryz.ntmps114
 go_wp2_with (first | (go_at_call 106;refine (peek0 b t s v _ h).mono ?_;rintro e w' ⟨rfl,rfl⟩))
 all_goals go_ret
 all_goals exact ⟨ret_bool (by simp [repS, *]),rfl⟩
theorem atItem_any (b:Nat) (t:ByteArray) (s:RS) (v:Value) (w:World) (h:RD w b t s v):
 Calls Tryz.prog 123 #[.pointer (some ⟨b,0,none⟩)] w fun e w'=>e=.returned (.bool (itemQ t s))∧w'=w:=by
 go_enter Tryz.func123,Tryz.ntmps123
 go_wp2_with (first | (go_at_call 106;refine (peek0 b t s v _ h).mono ?_;rintro e w' ⟨rfl,rfl⟩))
 all_goals go_ret
 all_goals exact ⟨ret_bool (by simp [itemQ, *]),rfl⟩
theorem atSec_any (b:Nat) (t:ByteArray) (s:RS) (v:Value) (w:World) (h:RD w b t s v):
 Calls Tryz.prog 128 #[.pointer (some ⟨b,0,none⟩)] w fun e w'=>e=.returned (.bool (secS t s))∧w'=w:=by
 go_enter Tryz.func128,Tryz.ntmps128
 go_wp2_with fail
 refine (peek0 b t s v _ h).mono ?_
 rintro e w' ⟨rfl,rfl⟩
 go_wp2_with fail
 refine (peek1 b t s v _ h).mono ?_
 rintro e w' ⟨rfl,rfl⟩
 go_wp2
 all_goals go_ret
 all_goals exact ⟨ret_bool (by simp [secS, *]),rfl⟩
theorem member_any (b:Nat) (t:ByteArray) (s:RS) (v:Value) (w:World) (h:RD w b t s v):
 Calls Tryz.prog 127 #[.pointer (some ⟨b,0,none⟩)] w fun e w'=>e=.returned (.int .i64 (memS t s).1)∧RD w' b t (memS t s).2 v∧Kept [b] w w':=by
 by_cases hn:(nextS t s).1=92
 · have hb:((nextS t s).1==92)=true:=by rw [hn];rfl
   have e:memS t s=nextS t (nextS t s).2:=if_pos hn
   rw [e]
   clear hn e
   go_enter Tryz.func127,Tryz.ntmps127
   go_wp2_with fail
   refine (next_any b t s v _ h).mono ?_
   rintro e w1 ⟨rfl,h1,k1⟩
   go_wp2_with fail
   refine (next_any b t _ v _ h1).mono ?_
   rintro e w2 ⟨rfl,h2,k2⟩
   go_wp2
   go_ret
   exact ⟨rfl,h2,k1.trans k2⟩
 · have hb:((nextS t s).1==92)=false:=by simpa using hn
   have e:memS t s=nextS t s:=if_neg hn
   rw [e]
   clear hn e
   go_enter Tryz.func127,Tryz.ntmps127
   go_wp2_with fail
   refine (next_any b t s v _ h).mono ?_
   rintro e w1 ⟨rfl,h1,k1⟩
   go_wp2
   go_ret
   exact ⟨rfl,h1,k1⟩
theorem digit_any (b:Nat) (t:ByteArray) (s:RS) (v:Value) (w:World) (h:RD w b t s v):
 Calls Tryz.prog 125 #[.pointer (some ⟨b,0,none⟩)] w fun e w'=>e=.returned (.int .i64 (digS t s).1)∧RD w' b t (digS t s).2 v∧Kept [b] w w':=by
 have hbd:=next_bd t s
 by_cases hn:(nextS t s).1<48
 · have e:digS t s=(0,failS t):=if_pos (Or.inl hn)
   rw [e]
   clear e
   go_enter Tryz.func125,Tryz.ntmps125
   go_wp2_with fail
   refine (next_any b t s v _ h).mono ?_
   rintro e w1 ⟨rfl,h1,k1⟩
   go_wp2_with fail
   refine (fail_any b t _ v _ h1).mono ?_
   rintro e w2 ⟨rfl,h2,k2⟩
   go_wp2
   go_ret
   exact ⟨rfl,h2,k1.trans k2⟩
 by_cases hm:57<(nextS t s).1
 · have e:digS t s=(0,failS t):=if_pos (Or.inr hm)
   rw [e]
   clear e
   go_enter Tryz.func125,Tryz.ntmps125
   go_wp2_with fail
   refine (next_any b t s v _ h).mono ?_
   rintro e w1 ⟨rfl,h1,k1⟩
   go_wp2_with fail
   refine (fail_any b t _ v _ h1).mono ?_
   rintro e w2 ⟨rfl,h2,k2⟩
   go_wp2
   go_ret
   exact ⟨rfl,h2,k1.trans k2⟩
 · have e:digS t s=((nextS t s).1-48,(nextS t s).2):=if_neg (by omega)
   rw [e]
   clear e
   go_enter Tryz.func125,Tryz.ntmps125
   go_wp2_with fail
   refine (next_any b t s v _ h).mono ?_
   rintro e w1 ⟨rfl,h1,k1⟩
   go_wp2
   go_ret
   exact ⟨rfl,h1,k1⟩
theorem upper_any (b:Nat) (t:ByteArray) (s:RS) (v:Value) (w:World) (h:RD w b t s v):
 Calls Tryz.prog 126 #[.pointer (some ⟨b,0,none⟩)] w fun e w'=>e=.returned (.int .i64 (upS t s).1)∧RD w' b t (upS t s).2 v∧Kept [b] w w':=by
 by_cases hn:pk t s.1=125
 · have hb:(pk t s.1==125)=true:=by rw [hn];rfl
   have e:upS t s=(-1,s):=if_pos hn
   rw [e]
   clear hn e
   go_enter Tryz.func126,Tryz.ntmps126
   go_wp2_with fail
   refine (peek0 b t s v _ h).mono ?_
   rintro e w1 ⟨rfl,rfl⟩
   go_wp2
   go_ret
   exact ⟨rfl,h,Kept.refl _ _⟩
 · have hb:(pk t s.1==125)=false:=by simpa using hn
   have e:upS t s=digS t s:=if_neg hn
   rw [e]
   clear hn e
   go_enter Tryz.func126,Tryz.ntmps126
   go_wp2_with fail
   refine (peek0 b t s v _ h).mono ?_
   rintro e w1 ⟨rfl,rfl⟩
   go_wp2_with fail
   refine (digit_any b t s v _ h).mono ?_
   rintro e w1 ⟨rfl,h1,k1⟩
   go_wp2
   go_ret
   exact ⟨rfl,h1,k1⟩
end Go.Proofs.YtgifhgnccmnbiabGreat
