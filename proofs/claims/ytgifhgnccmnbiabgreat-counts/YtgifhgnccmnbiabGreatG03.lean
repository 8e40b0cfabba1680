/- The reader of patterns: items of a list, braces, repeats. -/
import Derived.Test.YtgifhgnccmnbiabGreatG02
import Derived.Test.YtgifhgnccmnbiabGreatG01
import Derived.Deep.RegionLaw
set_option linter.unusedVariables false
set_option linter.unusedSimpArgs false
set_option maxHeartbeats 4000000
set_option maxRecDepth 100000
namespace Go.Proofs.YtgifhgnccmnbiabGreat
open Go.RowKit Go.IntWalk
theorem item_any (b:Nat) (t:ByteArray) (s:RS) (v:Value) (w:World) (h:RD w b t s v):
 Calls Tryz.prog 124 #[.pointer (some ⟨b,0,none⟩)] w fun e w'=>
  e=.returned (.agg #[.int .i64 (itemS t s).1.1,.int .i64 (itemS t s).1.2])∧RD w' b t (itemS t s).2 v∧Kept [b] w w':=by
 have hbw:b<w.heap.size:=h.blk.lt
 have hz:RD (w.alloc (.cells #[.int .i64 0,.int .i64 0] 186)) b t s v:=h.kept (Kept.alloc (Kept.refl [] w) _) (by simp)
 have kz:Kept [b] w (w.alloc (.cells #[.int .i64 0,.int .i64 0] 186)):=Kept.alloc (Kept.refl _ w) _
 have bz:Blk (w.alloc (.cells #[.int .i64 0,.int .i64 0] 186)) w.heap.size #[.int .i64 0,.int .i64 0] 186:=Blk.new _ _ _
 clear h
 have fin:∀(x:World) (lo hi:Int) (s':RS),RD x b t s' v→Kept [b] w x→Blk x w.heap.size #[.int .i64 0,.int .i64 0] 186 →
  ((x.setCell ⟨w.heap.size,0,none⟩ (.int .i64 lo)).setCell ⟨w.heap.size,1,none⟩ (.int .i64 hi)).cell? ⟨w.heap.size,0,none⟩=some (.int .i64 lo) ∧
  ((x.setCell ⟨w.heap.size,0,none⟩ (.int .i64 lo)).setCell ⟨w.heap.size,1,none⟩ (.int .i64 hi)).cell? ⟨w.heap.size,1,none⟩=some (.int .i64 hi) ∧
  RD ((x.setCell ⟨w.heap.size,0,none⟩ (.int .i64 lo)).setCell ⟨w.heap.size,1,none⟩ (.int .i64 hi)) b t s' v ∧
  Kept [b] w ((x.setCell ⟨w.heap.size,0,none⟩ (.int .i64 lo)).setCell ⟨w.heap.size,1,none⟩ (.int .i64 hi)):=by
  intro x lo hi s' hr hk hb
  have hb2:=(hb.set 0 (.int .i64 lo)).set 1 (.int .i64 hi)
  refine ⟨by rw [hb2.cell];rfl,by rw [hb2.cell];rfl,⟨Blk.other (Blk.other hr.blk _ _ (by omega)) _ _ (by omega),hr.fits,hr.small⟩,(hk.setCell (Or.inr (Nat.le_refl _)) _).setCell (Or.inr (Nat.le_refl _)) _⟩
 by_cases hq:secS t (memS t s).2=true
 · have e1:highS t s=memS t ((memS t s).2.1+1,(memS t s).2.2):=if_pos hq
   have hl:(memS t s).2.1<t.size:=fits_sec hq
   by_cases hc:(highS t s).1<(memS t s).1
   · have e2:itemS t s=(((memS t s).1,(highS t s).1),failS t):=by unfold itemS;rw [if_pos hc]
     rw [e2]
     rw [e1] at hc ⊢
     clear e1 e2
     go_enter Tryz.func124,Tryz.ntmps124
     go_wp2_with fail
     refine (member_any b t s v _ hz).mono ?_
     rintro e w1 ⟨rfl,h1,k1⟩
     go_wp2_with fail
     refine (atSec_any b t _ v _ h1).mono ?_
     rintro e w1 ⟨rfl,rfl⟩
     have q1:=h1.c1
     have q2:=h1.f 1
     have hsm:=h1.small
     go_wp2_with fail
     refine (member_any b t _ v _ (h1.upto _ hl)).mono ?_
     rintro e w2 ⟨rfl,h2,k2⟩
     go_wp2_with fail
     refine (fail_any b t _ v _ h2).mono ?_
     rintro e w3 ⟨rfl,h3,k3⟩
     have kk:=(k1.trans (((Kept.refl _ _).setCell (by simp) _).trans k2)).trans k3
     have b3:=bz.kept kk (by simp;omega)
     have g0:=b3.frozen 0
     have g1:=b3.frozen 1
     have g2:=b3.cell 0
     have g3:=b3.cell 1
     obtain ⟨r0,r1,r2,r3⟩:=fin w3 (memS t s).1 _ _ h3 (kz.trans kk) b3
     go_wp2
     exact bodyPost_ret (v:=.agg #[.int .i64 _,.int .i64 _]) (by simp [results,Tryz.results124,go_sem,r0,r1]) rfl ⟨rfl,r2,r3⟩
   · have e2:itemS t s=(((memS t s).1,(highS t s).1),(highS t s).2):=by unfold itemS;rw [if_neg hc]
     rw [e2]
     rw [e1] at hc ⊢
     clear e1 e2
     go_enter Tryz.func124,Tryz.ntmps124
     go_wp2_with fail
     refine (member_any b t s v _ hz).mono ?_
     rintro e w1 ⟨rfl,h1,k1⟩
     go_wp2_with fail
     refine (atSec_any b t _ v _ h1).mono ?_
     rintro e w1 ⟨rfl,rfl⟩
     have q1:=h1.c1
     have q2:=h1.f 1
     have hsm:=h1.small
     go_wp2_with fail
     refine (member_any b t _ v _ (h1.upto _ hl)).mono ?_
     rintro e w2 ⟨rfl,h2,k2⟩
     have kk:=k1.trans (((Kept.refl _ _).setCell (by simp) _).trans k2)
     have b3:=bz.kept kk (by simp;omega)
     have g0:=b3.frozen 0
     have g1:=b3.frozen 1
     have g2:=b3.cell 0
     have g3:=b3.cell 1
     obtain ⟨r0,r1,r2,r3⟩:=fin w2 (memS t s).1 _ _ h2 (kz.trans kk) b3
     go_wp2
     exact bodyPost_ret (v:=.agg #[.int .i64 _,.int .i64 _]) (by simp [results,Tryz.results124,go_sem,r0,r1]) rfl ⟨rfl,r2,r3⟩
 · have e1:highS t s=memS t s:=if_neg hq
   have e2:itemS t s=(((memS t s).1,(memS t s).1),(memS t s).2):=by unfold itemS;rw [e1,if_neg (by omega)]
   have hf:secS t (memS t s).2=false:=by simpa using hq
   rw [e2]
   clear e1 e2 hq
   go_enter Tryz.func124,Tryz.ntmps124
   go_wp2_with fail
   refine (member_any b t s v _ hz).mono ?_
   rintro e w1 ⟨rfl,h1,k1⟩
   go_wp2_with fail
   refine (atSec_any b t _ v _ h1).mono ?_
   rintro e w1 ⟨rfl,rfl⟩
   have b3:=bz.kept k1 (by simp;omega)
   have g0:=b3.frozen 0
   have g1:=b3.frozen 1
   have g2:=b3.cell 0
   have g3:=b3.cell 1
   obtain ⟨r0,r1,r2,r3⟩:=fin w1 (memS t s).1 (memS t s).1 _ h1 (kz.trans k1) b3
   go_wp2
   exact bodyPost_ret (v:=.agg #[.int .i64 _,.int .i64 _]) (by simp [results,Tryz.results124,go_sem,r0,r1]) rfl ⟨rfl,r2,r3⟩
theorem most_true {t:ByteArray} {s:RS} (h:(takeS t 44 (digS t s).2).1=true):mostS t s=upS t (takeS t 44 (digS t s).2).2:=if_pos h
theorem most_false {t:ByteArray} {s:RS} (h:(takeS t 44 (digS t s).2).1=false):mostS t s=((digS t s).1,(takeS t 44 (digS t s).2).2):=if_neg (by rw [h];decide)
theorem braces_bad {t:ByteArray} {s:RS} (h:(takeS t 125 (mostS t s).2).1=false∨((mostS t s).1≠-1∧(mostS t s).1<(digS t s).1)):bracesS t s=((0,0),failS t):=if_pos h
theorem braces_good {t:ByteArray} {s:RS} (h:¬((takeS t 125 (mostS t s).2).1=false∨((mostS t s).1≠-1∧(mostS t s).1<(digS t s).1))):
 bracesS t s=(((digS t s).1,(mostS t s).1),(takeS t 125 (mostS t s).2).2):=if_neg h
theorem braces_any (b:Nat) (t:ByteArray) (s:RS) (v:Value) (w:World) (h:RD w b t s v):
 Calls Tryz.prog 122 #[.pointer (some ⟨b,0,none⟩)] w fun e w'=>
  e=.returned (.tuple #[.int .i64 (bracesS t s).1.1,.int .i64 (bracesS t s).1.2])∧RD w' b t (bracesS t s).2 v∧Kept [b] w w':=by
 have bd1:=dig_bd t s
 have bd2:=most_bd t s
 have front:∀(x:Bool),(takeS t 44 (digS t s).2).1=x→True:=fun _ _=>trivial
 clear front
 by_cases hcl:(takeS t 125 (mostS t s).2).1=false
 · have e2:=braces_bad (Or.inl hcl)
   rw [e2]
   clear e2
   go_enter Tryz.func122,Tryz.ntmps122
   go_wp2_with fail
   refine (digit_any b t s v _ h).mono ?_
   rintro e w1 ⟨rfl,h1,k1⟩
   go_wp2_with fail
   refine (take_any b 44 t _ v _ h1 (by omega) (by omega)).mono ?_
   rintro e w2 ⟨rfl,h2,k2⟩
   have k12:=k1.trans k2
   clear h1 k1 k2
   by_cases hm:(takeS t 44 (digS t s).2).1=true
   · have e1:=most_true hm
     go_wp2_with fail
     refine (upper_any b t _ v _ h2).mono ?_
     rw [←e1]
     rintro e w3 ⟨rfl,h3,k3⟩
     have k13:=k12.trans k3
     clear h2 k12 k3 e1 hm
     go_wp2_with fail
     refine (take_any b 125 t _ v _ h3 (by omega) (by omega)).mono ?_
     rintro e w4 ⟨rfl,h4,k4⟩
     go_wp2_with fail
     refine (fail_any b t _ v _ h4).mono ?_
     rintro e w5 ⟨rfl,h5,k5⟩
     go_wp2
     go_ret2
     exact ⟨rfl,h5,(k13.trans k4).trans k5⟩
   · have e1:=most_false (by simpa using hm)
     have hm':(takeS t 44 (digS t s).2).1=false:=by simpa using hm
     have e3:(mostS t s).1=(digS t s).1:=by rw [e1]
     rw [e1] at hcl
     go_wp2_with fail
     refine (take_any b 125 t _ v _ h2 (by omega) (by omega)).mono ?_
     rintro e w4 ⟨rfl,h4,k4⟩
     go_wp2_with fail
     refine (fail_any b t _ v _ h4).mono ?_
     rintro e w5 ⟨rfl,h5,k5⟩
     go_wp2
     go_ret2
     exact ⟨rfl,h5,(k12.trans k4).trans k5⟩
 have hcl:(takeS t 125 (mostS t s).2).1=true:=by simpa using hcl
 by_cases hm:(takeS t 44 (digS t s).2).1=true
 · have e1:Hid (_=_):=most_true hm
   by_cases hn:(mostS t s).1 = -1
   · rw [braces_good (by rw [hcl];simp [hn]),hn]
     go_enter Tryz.func122,Tryz.ntmps122
     go_wp2_with fail
     refine (digit_any b t s v _ h).mono ?_
     rintro e w1 ⟨rfl,h1,k1⟩
     go_wp2_with fail
     refine (take_any b 44 t _ v _ h1 (by omega) (by omega)).mono ?_
     rintro e w2 ⟨rfl,h2,k2⟩
     go_wp2_with fail
     refine (upper_any b t _ v _ h2).mono ?_
     rw [←e1.out]
     rintro e w3 ⟨rfl,h3,k3⟩
     go_wp2_with fail
     refine (take_any b 125 t _ v _ h3 (by omega) (by omega)).mono ?_
     rintro e w4 ⟨rfl,h4,k4⟩
     go_wp2
     go_ret2
     exact ⟨rfl,h4,((k1.trans k2).trans k3).trans k4⟩
   by_cases hl:(mostS t s).1<(digS t s).1
   · have hb:((mostS t s).1 != -1)=true:=by simpa using hn
     rw [braces_bad (Or.inr ⟨hn,hl⟩)]
     clear hn
     go_enter Tryz.func122,Tryz.ntmps122
     go_wp2_with fail
     refine (digit_any b t s v _ h).mono ?_
     rintro e w1 ⟨rfl,h1,k1⟩
     go_wp2_with fail
     refine (take_any b 44 t _ v _ h1 (by omega) (by omega)).mono ?_
     rintro e w2 ⟨rfl,h2,k2⟩
     go_wp2_with fail
     refine (upper_any b t _ v _ h2).mono ?_
     rw [←e1.out]
     rintro e w3 ⟨rfl,h3,k3⟩
     go_wp2_with fail
     refine (take_any b 125 t _ v _ h3 (by omega) (by omega)).mono ?_
     rintro e w4 ⟨rfl,h4,k4⟩
     go_wp2_with fail
     refine (fail_any b t _ v _ h4).mono ?_
     rintro e w5 ⟨rfl,h5,k5⟩
     go_wp2
     go_ret2
     exact ⟨rfl,h5,(((k1.trans k2).trans k3).trans k4).trans k5⟩
   · have hb:((mostS t s).1 != -1)=true:=by simpa using hn
     rw [braces_good (by rw [hcl];simp;omega)]
     clear hn
     go_enter Tryz.func122,Tryz.ntmps122
     go_wp2_with fail
     refine (digit_any b t s v _ h).mono ?_
     rintro e w1 ⟨rfl,h1,k1⟩
     go_wp2_with fail
     refine (take_any b 44 t _ v _ h1 (by omega) (by omega)).mono ?_
     rintro e w2 ⟨rfl,h2,k2⟩
     go_wp2_with fail
     refine (upper_any b t _ v _ h2).mono ?_
     rw [←e1.out]
     rintro e w3 ⟨rfl,h3,k3⟩
     go_wp2_with fail
     refine (take_any b 125 t _ v _ h3 (by omega) (by omega)).mono ?_
     rintro e w4 ⟨rfl,h4,k4⟩
     go_wp2
     go_ret2
     exact ⟨rfl,h4,((k1.trans k2).trans k3).trans k4⟩
 · have hm':(takeS t 44 (digS t s).2).1=false:=by simpa using hm
   have e1:=most_false hm'
   have hb:((digS t s).1 != -1)=true:=by simp;omega
   rw [braces_good (by rw [hcl,e1];simp),e1]
   rw [e1] at hcl
   clear e1 hm
   go_enter Tryz.func122,Tryz.ntmps122
   go_wp2_with fail
   refine (digit_any b t s v _ h).mono ?_
   rintro e w1 ⟨rfl,h1,k1⟩
   go_wp2_with fail
   refine (take_any b 44 t _ v _ h1 (by omega) (by omega)).mono ?_
   rintro e w2 ⟨rfl,h2,k2⟩
   go_wp2_with fail
   refine (take_any b 125 t _ v _ h2 (by omega) (by omega)).mono ?_
   rintro e w4 ⟨rfl,h4,k4⟩
   go_wp2
   go_ret2
   exact ⟨rfl,h4,(k1.trans k2).trans k4⟩
theorem repeat_any (b:Nat) (t:ByteArray) (s:RS) (v:Value) (w:World) (h:RD w b t s v):
 Calls Tryz.prog 115 #[.pointer (some ⟨b,0,none⟩)] w fun e w'=>
  e=.returned (.tuple #[.int .i64 (repeatS t s).1.1,.int .i64 (repeatS t s).1.2])∧RD w' b t (repeatS t s).2 v∧Kept [b] w w':=by
 by_cases ha:(nextS t s).1=42
 · have e:repeatS t s=((0,-1),(nextS t s).2):=if_pos ha
   rw [e]
   clear e
   go_enter Tryz.func115,Tryz.ntmps115
   go_wp2_with fail
   refine (next_any b t s v _ h).mono ?_
   rintro e w1 ⟨rfl,h1,k1⟩
   go_wp2
   go_ret2
   exact ⟨rfl,h1,k1⟩
 by_cases hb:(nextS t s).1=43
 · have e:repeatS t s=((1,-1),(nextS t s).2):=by unfold repeatS;rw [if_neg ha,if_pos hb]
   rw [e]
   clear e
   go_enter Tryz.func115,Tryz.ntmps115
   go_wp2_with fail
   refine (next_any b t s v _ h).mono ?_
   rintro e w1 ⟨rfl,h1,k1⟩
   go_wp2
   go_ret2
   exact ⟨rfl,h1,k1⟩
 by_cases hc:(nextS t s).1=63
 · have e:repeatS t s=((0,1),(nextS t s).2):=by unfold repeatS;rw [if_neg ha,if_neg hb,if_pos hc]
   rw [e]
   clear e
   go_enter Tryz.func115,Tryz.ntmps115
   go_wp2_with fail
   refine (next_any b t s v _ h).mono ?_
   rintro e w1 ⟨rfl,h1,k1⟩
   go_wp2
   go_ret2
   exact ⟨rfl,h1,k1⟩
 · have e:repeatS t s=bracesS t (nextS t s).2:=by unfold repeatS;rw [if_neg ha,if_neg hb,if_neg hc]
   have ha':((nextS t s).1==42)=false:=by simpa using ha
   have hb':((nextS t s).1==43)=false:=by simpa using hb
   have hc':((nextS t s).1==63)=false:=by simpa using hc
   rw [e]
   clear e ha hb hc
   go_enter Tryz.func115,Tryz.ntmps115
   go_wp2_with fail
   refine (next_any b t s v _ h).mono ?_
   rintro e w1 ⟨rfl,h1,k1⟩
   go_wp2_with fail
   refine (braces_any b t _ v _ h1).mono ?_
   rintro e w2 ⟨rfl,h2,k2⟩
   go_wp2
   go_ret2
   exact ⟨rfl,h2,k1.trans k2⟩
theorem step_append_owned {P:Program} {ops:Array Oper} {o:Oper} {a:Act} {w:World} {K:Act→World→Prop} {Q:Exit→Act→World→Prop} {E:Prop}
 (hg:o.guard=none) (s x:Operand) (t:TypeId) (hop:o.op=Op.call { callee:=Callee.builtin Builtin.append,args:=#[s,x],argTypes:=#[t,t] })
 (e:TypeId) (i:TypeInfo) (z:Value) (size bytes:Nat) (h1:P.underlying t=some (.slice e)) (h2:P.info? e=some i) (h3:i.zero=some z) (h4:i.size=size) (h5:i.bytes=bytes) (h6:z.cells.size=size) (h7:0<size)
 (base:Nat) (v:Value) (n:Nat) (xs:List Value) (hs:a.eval s=v) (hown:w.ownsRow base e size v n xs)
 (ad:Addr) (m c:Nat) (news:List Value) (hx:a.eval x=.slice (some ad) m c) (hn:news.length=m*size) (hc:∀j u,news[j]?=some u→w.cell? (ad.add j)=some u) (h1c:∀u∈news,u.oneCell'=true)
 (b1:n+m≤maxLen) (b2:(n+m)*bytes≤140737488355328) (hbase:base≤w.heap.size)
 (hK:∀v' w',w'.ownsRow base e size v' (n+m) (xs++news)→w.grownBy w' v.ownBlock→K (a.put o.dst v') w'):
 if Region.wanted o (yielded ops a.tmps)=true then Oper.wp P o a w K Q else E:=by
 have hw:Region.wanted o (yielded ops a.tmps)=true:=by simp [Region.wanted,hg]
 rw [if_pos hw]
 obtain ⟨v',w',hrun,r1,r2,_⟩:=run_append_own (P:=P) w base t o.type e i z size bytes h1 h2 h3 h4 h5 h6 h7 v n xs hown ad m c news hn hc h1c b1 b2 hbase
 unfold Oper.wp
 simp [execOp,hop,resolve,invoke,builtin,hs,hx,hrun,Result.andThen]
 exact hK v' w' r1 r2
abbrev IV:=Option Addr×Nat×Nat
def ivV (x:IV):Value:=.slice x.1 x.2.1 x.2.2
def AN.cells (n:AN) (x:IV):List Value:=
 [.int .i64 n.kind,.slice x.1 x.2.1 x.2.2,.bool n.neg,.int .i64 n.left,.int .i64 n.right,.int .i64 n.least,.int .i64 n.most,.int .i64 n.size]
def nodesCells:List AN→List IV→List Value
 | n :: ns,x :: xs=>n.cells x++nodesCells ns xs
 | _,_=>[]
def itemCells:List (Int×Int)→List Value
 | []=>[]
 | x :: r=>.int .i64 x.1 :: .int .i64 x.2 :: itemCells r
theorem nodesCells_snoc:∀(ns:List AN) (xs:List IV) (n:AN) (x:IV),xs.length=ns.length→nodesCells (ns++[n]) (xs++[x])=nodesCells ns xs++n.cells x
 | [],[],n,x,_=>by simp [nodesCells]
 | [],_ :: _,n,x,h=>by simp at h
 | m :: ns,y :: xs,n,x,h=>by simp [nodesCells,nodesCells_snoc ns xs n x (by simpa using h)]
 | m :: ns,[],n,x,h=>by simp at h
theorem nodesCells_get:∀(ns:List AN) (xs:List IV) (i j:Nat) (n:AN) (x:IV),ns[i]?=some n→xs[i]?=some x→j<8→(nodesCells ns xs)[i*8+j]?=(n.cells x)[j]?
 | [],_,i,j,n,x,h,_,_=>by simp at h
 | m :: ns,[],i,j,n,x,_,h,_=>by simp at h
 | m :: ns,y :: xs,0,j,n,x,h,h',hj=>by
   simp at h h';subst h h'
   rw [nodesCells,Nat.zero_mul,Nat.zero_add,List.getElem?_append_left (by simp [AN.cells];omega)]
 | m :: ns,y :: xs,i+1,j,n,x,h,h',hj=>by
   simp at h h'
   rw [nodesCells,List.getElem?_append_right (by simp [AN.cells];omega)]
   have e:(i+1)*8+j-(m.cells y).length=i*8+j:=by simp [AN.cells];omega
   rw [e]
   exact nodesCells_get ns xs i j n x h h' hj
theorem itemCells_snoc:∀(l:List (Int×Int)) (x:Int×Int),itemCells (l++[x])=itemCells l++[.int .i64 x.1,.int .i64 x.2]
 | [],x=>rfl
 | y :: r,x=>by simp [itemCells,itemCells_snoc r x]
def ItemsOk (w:World) (base:Nat) (x:IV) (its:List (Int×Int)):Prop:=w.ownsRow base 186 2 (ivV x) its.length (itemCells its)
structure NV (w:World) (b:Nat) (t:ByteArray) (s:RS) (ns:List AN) (v:Value) (xs:List IV):Prop where
 rd:RD w b t s v
 row:w.ownsRow (b+1) 114 8 v ns.length (nodesCells ns xs)
 len:xs.length=ns.length
 items:∀(i:Nat) (n:AN) (x:IV),ns[i]?=some n→xs[i]?=some x→ItemsOk w (b+1) x n.its
 sized:Sized ns
def NS (w:World) (b:Nat) (t:ByteArray) (st:PS):Prop:=∃v xs,NV w b t st.1 st.2 v xs
section
variable {w w':World} {b:Nat} {t:ByteArray} {s s':RS} {ns:List AN} {v:Value} {xs:List IV}
theorem own_ge {w:World} {base:Nat} {e:TypeId} {size:Nat} {v:Value} {n:Nat} {xs:List Value} (h:w.ownsRow base e size v n xs) {g:Nat} (hg:v.ownBlock=some g):base≤g:=(h.lt g hg).1
theorem own_ne {w:World} {b1 b2 e1 e2 z1 z2:Nat} {v1 v2:Value} {n1 n2:Nat} {x1 x2:List Value} (h1:w.ownsRow b1 e1 z1 v1 n1 x1) (h2:w.ownsRow b2 e2 z2 v2 n2 x2) (he:e1≠e2):
 v1.ownBlock=none∨v1.ownBlock≠v2.ownBlock:=by
 rcases h1.2 with ⟨rfl,_⟩ | ⟨g1,c1,u1,rfl,_,hg1,_⟩
 · exact Or.inl rfl
 · refine Or.inr (fun hc=>?_)
   rcases h2.2 with ⟨rfl,_⟩ | ⟨g2,c2,u2,rfl,_,hg2,_⟩
   · simp [Value.ownBlock] at hc
   · simp only [Value.ownBlock,Option.some.injEq] at hc
     subst hc
     rw [hg1] at hg2
     simp only [Option.some.injEq,Obj.cells.injEq] at hg2
     exact he hg2.2.1
theorem NV.scan (h:NV w b t s ns v xs) (r:RD w' b t s' v) (k:Kept [b] w w'):NV w' b t s' ns v xs:=by
 have gr:w.grownBy w' (some b):=⟨k.os,k.tape,k.output,k.size,fun i hi hn=>k.block i hi (by simpa using hn)⟩
 refine ⟨r,h.row.kept gr ?_,h.len,fun i n x hn hx=>?_,h.sized⟩
 · cases hv:v.ownBlock with
   | none=>exact Or.inl rfl
   | some g=>refine Or.inr ?_;have:=own_ge h.row hv;simp;omega
 · have h1:=h.items i n x hn hx
   refine World.ownsRow.kept h1 gr ?_
   cases hv:(ivV x).ownBlock with
   | none=>exact Or.inl rfl
   | some g=>refine Or.inr ?_;have:=own_ge h1 hv;simp;omega
end
theorem size_any (b i:Nat) (t:ByteArray) (s:RS) (ns:List AN) (v:Value) (xs:List IV) (w:World) (h:NV w b t s ns v xs) (hi:i<ns.length) (hl:ns.length≤1000):
 Calls Tryz.prog 56 #[.pointer (some ⟨b,0,none⟩),.int .i64 (i:Int)] w fun e w'=>e=.returned (.int .i64 (sizeAt ns i))∧w'=w:=by
 have h2:=h.rd.c2
 obtain ⟨x,hx⟩:∃x,xs[i]?=some x:=by have:=h.len;exact ⟨xs[i],List.getElem?_eq_getElem (by omega)⟩
 obtain ⟨n,hn⟩:∃n,ns[i]?=some n:=⟨ns[i],List.getElem?_eq_getElem hi⟩
 have hget:=nodesCells_get ns xs i 7 n x hn hx (by omega)
 have hv:∃g cap,v=.slice (some ⟨g,0,none⟩) ns.length cap:=by
  rcases h.row.2 with ⟨_,h⟩ | ⟨g,cap,_,h,_⟩
  · omega
  · exact ⟨g,cap,h⟩
 obtain ⟨g,cap,rfl⟩:=hv
 have hc:w.cell? ⟨g,i*8+7,none⟩=some (.int .i64 n.size):=by
  have:=h.row.cells (g:=g) rfl (i*8+7) (.int .i64 n.size) (by rw [hget];rfl)
  rwa [show (⟨g,0,none⟩:Addr).add (i*8+7)=⟨g,i*8+7,none⟩ by simp [Addr.add]] at this
 have e:sizeAt ns i=n.size:=by simp [sizeAt,hn]
 rw [e]
 clear hget e hn hx h
 go_enter Tryz.func56,Tryz.ntmps56
 go_wp2
 go_ret
 exact ⟨rfl,rfl⟩
theorem own_base {w:World} {base base':Nat} {e:TypeId} {size:Nat} {v:Value} {n:Nat} {xs:List Value} (h:w.ownsRow base e size v n xs) (hb:base'≤base):w.ownsRow base' e size v n xs:=by
 refine ⟨h.1,?_⟩
 rcases h.2 with h2 | ⟨g,c,u,h3,h4,r⟩
 · exact Or.inl h2
 · exact Or.inr ⟨g,c,u,h3,Nat.le_trans hb h4,r⟩
section
variable {P:Program} (w:World)
theorem run_append_placed (base:Nat) (t ty e:TypeId) (i:TypeInfo) (z:Value) (size bytes:Nat) (ht:P.underlying t=some (.slice e)) (hi:P.info? e=some i) (hz:i.zero=some z)
 (hsize:i.size=size) (hby:i.bytes=bytes) (hzs:z.cells.size=size) (hsz:0<size)
 (v:Value) (n:Nat) (xs:List Value) (hown:w.ownsRow base e size v n xs)
 (a:Addr) (m c:Nat) (news:List Value) (hl:news.length=m*size) (hnews:∀j u,news[j]?=some u→w.cell? (a.add j)=some u) (h1:∀u∈news,u.oneCell'=true)
 (h63:n+m≤maxLen) (hbytes:(n+m)*bytes≤140737488355328) (hbase:base≤w.heap.size):
 ∃v' w',(Builtin.append_ #[t,t] ty #[v,.slice (some a) m c]).run P w=.ok v' w'∧w'.ownsRow base e size v' (n+m) (xs++news)∧w.grownBy w' v.ownBlock ∧
  (v'.ownBlock=v.ownBlock∨∀g,v'.ownBlock=some g→w.heap.size≤g):=by
 rcases hown.2 with ⟨rfl,rfl⟩ | ⟨g,cap,cur,rfl,hbg,hg,hnc,hcm,hcs,htake⟩
 · have hx:xs=[]:=List.eq_nil_of_length_eq_zero (by simpa using hown.1)
   subst hx
   obtain ⟨v',w',r,o,gr,_⟩:=run_append_own (P:=P) w w.heap.size t ty e i z size bytes ht hi hz hsize hby hzs hsz (.slice none 0 0) 0 [] (World.ownsRow_nil w _ e size) a m c news hl hnews h1 h63 hbytes (Nat.le_refl _)
   exact ⟨v',w',r,own_base o hbase,gr,Or.inr (fun g hg=>(o.lt g hg).1)⟩
 · by_cases hroom:n+m≤cap
   · obtain ⟨v',w',r,o,gr,_⟩:=run_append_own (P:=P) w base t ty e i z size bytes ht hi hz hsize hby hzs hsz _ n xs hown a m c news hl hnews h1 h63 hbytes hbase
     subst hsize
     have hfit:n*i.size+news.length≤cur.size:=by rw [hl,hcs,←Nat.add_mul];exact Nat.mul_le_mul_right _ hroom
     have hr:=run_append_room (P:=P) w t ty e i ht hi g n cap cur hg a m c news hl hnews h1 hroom hfit
     refine ⟨v',w',r,o,gr,Or.inl ?_⟩
     rw [hr] at r
     simp only [Result.ok.injEq] at r
     rw [←r.1];rfl
   · have holds:∀j u,xs[j]?=some u→w.cell? ((⟨g,0,none⟩:Addr).add j)=some u:=hown.cells (g:=g) rfl
     obtain ⟨v',w',r,o,gr⟩:=run_append_arg_grows (P:=P) w t ty e i z size bytes ht hi hz hsize hby hzs hsz ⟨g,0,none⟩ n cap xs hown.1 holds a m c news hl hnews (by omega) h63 hbytes
     exact ⟨v',w',r,own_base o hbase,⟨gr.os,gr.tape,gr.output,gr.size,fun k hk _=>gr.block k hk (by simp)⟩,Or.inr (fun g hg=>(o.lt g hg).1)⟩
end
theorem wpList_append_placed {P:Program} {w:World} {ops:Array Oper} {rest:List Oper} {o:Oper} {a:Act} {Q:Exit→Act→World→Prop} (hgd:o.guard=none) (s x:Operand) (t:TypeId)
 (ho:o.op=.call { callee:=.builtin .append,args:=#[s,x],argTypes:=#[t,t] })
 (base:Nat) (e:TypeId) (i:TypeInfo) (z:Value) (size bytes:Nat) (ht:P.underlying t=some (.slice e)) (hi:P.info? e=some i) (hz:i.zero=some z)
 (hsize:i.size=size) (hby:i.bytes=bytes) (hzs:z.cells.size=size) (hsz:0<size)
 (v:Value) (n:Nat) (xs:List Value) (hs:a.eval s=v) (hown:w.ownsRow base e size v n xs)
 (ad:Addr) (m c:Nat) (news:List Value) (hx:a.eval x=.slice (some ad) m c) (hl:news.length=m*size) (hnews:∀j u,news[j]?=some u→w.cell? (ad.add j)=some u) (h1:∀u∈news,u.oneCell'=true)
 (h63:n+m≤maxLen) (hbytes:(n+m)*bytes≤140737488355328) (hbase:base≤w.heap.size)
 (h:∀v' w',w'.ownsRow base e size v' (n+m) (xs++news)→w.grownBy w' v.ownBlock→(v'.ownBlock=v.ownBlock∨∀g,v'.ownBlock=some g→w.heap.size≤g)→wpList P ops Q rest (a.put o.dst v') w'):wpList P ops Q (o :: rest) a w:=by
 refine wpList_plain hgd fun K hK=>?_
 obtain ⟨v',w',hrun,r1,r2,r3⟩:=run_append_placed (P:=P) w base t o.type e i z size bytes ht hi hz hsize hby hzs hsz v n xs hown ad m c news hl hnews h1 h63 hbytes hbase
 unfold Oper.wp
 simp [execOp,ho,resolve,invoke,builtin,hs,hx,hrun,Result.andThen]
 exact hK _ _ (h v' w' r1 r2 r3)
theorem getD_app {l more:List Nat} {k:Nat} (h:k<l.length):(l++more).getD k 0=l.getD k 0:=by
 simp [List.getD,List.getElem?_append_left h]
def ptrTo (adrs:List Nat) (k:Nat):Value:=.pointer (some ⟨adrs.getD k 0,0,none⟩)
structure PartOk (w:World) (F:Nat→Prop) (adrs:List Nat) (p:PN) (a:Nat) (iv kv:IV):Prop where
 blk:Blk w a #[.int .i64 p.kind,.slice iv.1 iv.2.1 iv.2.2,.bool p.neg,.slice kv.1 kv.2.1 kv.2.2,.int .i64 p.least,.int .i64 p.most] 164
 mine:F a
 ins:(p.kind≤3∧∃g,iv=(some ⟨g,0,none⟩,256,256)∧F g∧Blk w g (boolCells p.ins) 4)∨(3<p.kind∧iv=(none,0,0))
 kids:w.ownsRow 0 81 1 (ivV kv) p.kids.length (p.kids.map (ptrTo adrs))
 kidsF:∀g,(ivV kv).ownBlock=some g→F g
structure RM (w:World) (b:Nat) (t:ByteArray) (s:RS) (ps:List PN) (adrs:List Nat) (F:Nat→Prop):Prop where
 rr:RR w b t s
 len:adrs.length=ps.length
 part:∀(i:Nat) (p:PN),ps[i]?=some p→(∀k,k∈p.kids→k<i)∧∃iv kv,PartOk w F adrs p (adrs.getD i 0) iv kv
 old:∀k,F k→k<w.heap.size∧k≠b
section
variable {w w':World} {b a:Nat} {t:ByteArray} {s s':RS} {ps:List PN} {adrs:List Nat} {F F':Nat→Prop} {p:PN} {iv kv:IV}
theorem PartOk.frame (h:PartOk w F adrs p a iv kv) (hf:∀k,F k→w'.heap[k]?=w.heap[k]?):PartOk w' F adrs p a iv kv:=by
 refine ⟨(hf a h.mine).trans h.blk,h.mine,?_,?_,h.kidsF⟩
 · rcases h.ins with ⟨h1,g,h2,h3,h4⟩ | h5
   · exact Or.inl ⟨h1,g,h2,h3,(hf g h3).trans h4⟩
   · exact Or.inr h5
 · refine ⟨h.kids.1,?_⟩
   rcases h.kids.2 with h1 | ⟨g,cap,cur,h1,h2,h3,r⟩
   · exact Or.inl h1
   · exact Or.inr ⟨g,cap,cur,h1,h2,(hf g (h.kidsF g (by rw [h1];rfl))).trans h3,r⟩
theorem PartOk.wider (h:PartOk w F adrs p a iv kv) (hf:∀k,F k→F' k) {more:List Nat} (hk:∀k,k∈p.kids→k<adrs.length):PartOk w F' (adrs++more) p a iv kv:=by
 refine ⟨h.blk,hf a h.mine,?_,?_,fun g hg=>hf g (h.kidsF g hg)⟩
 · rcases h.ins with ⟨h1,g,h2,h3,h4⟩ | h5
   · exact Or.inl ⟨h1,g,h2,hf g h3,h4⟩
   · exact Or.inr h5
 · have e:p.kids.map (ptrTo (adrs++more))=p.kids.map (ptrTo adrs):=by
    apply List.map_congr_left
    intro k hk'
    unfold ptrTo
    rw [getD_app (hk k hk')]
   rw [e]
   exact h.kids
theorem RM.frame (h:RM w b t s ps adrs F) (hf:∀k,F k→w'.heap[k]?=w.heap[k]?) (r:RR w' b t s') (hs:w.heap.size≤w'.heap.size):RM w' b t s' ps adrs F:=
 ⟨r,h.len,fun i p hp=>⟨(h.part i p hp).1,by obtain ⟨iv,kv,hk⟩:=(h.part i p hp).2;exact ⟨iv,kv,hk.frame hf⟩⟩,fun k hk=>⟨Nat.lt_of_lt_of_le (h.old k hk).1 hs,(h.old k hk).2⟩⟩
theorem RM.scan (h:RM w b t s ps adrs F) (r:RR w' b t s') (k:Kept [b] w w'):RM w' b t s' ps adrs F:=
 h.frame (fun i hi=>k.block i (h.old i hi).1 (by simpa using (h.old i hi).2)) r k.size
theorem RM.push (h:RM w b t s ps adrs F) (hF:∀k,F k→F' k) (hold:∀k,F' k→k<w.heap.size∧k≠b) (hk:∀k,k∈p.kids→k<ps.length) (hp:PartOk w F' adrs p a iv kv):
 RM w b t s (ps++[p]) (adrs++[a]) F':=by
 refine ⟨h.rr,by simp [h.len],fun i q hq=>?_,hold⟩
 by_cases hi:i<ps.length
 · rw [List.getElem?_append_left hi] at hq
   obtain ⟨h1,iv,kv,h2⟩:=h.part i q hq
   refine ⟨h1,iv,kv,?_⟩
   rw [getD_app (by rw [h.len];exact hi)]
   exact h2.wider hF (fun k hk=>by have:=h1 k hk;rw [h.len];omega)
 · have hi2:i=ps.length:=by
    have:=(List.getElem?_eq_some_iff.1 hq).1
    simp at this;omega
   subst hi2
   rw [List.getElem?_append_right (Nat.le_refl _),Nat.sub_self] at hq
   simp at hq
   subst hq
   refine ⟨hk,iv,kv,?_⟩
   have e:(adrs++[a]).getD ps.length 0=a:=by rw [←h.len];simp [List.getD]
   rw [e]
   exact hp.wider (fun k hk=>hk) (fun k hk'=>by rw [h.len];exact hk k hk')
end
structure RMem (w w':World) (b:Nat) (t:ByteArray) (adrs:List Nat) (F:Nat→Prop) (r:Nat×RP) (pv:Value):Prop where
 mem:∃(more:List Nat) (F':Nat→Prop),RM w' b t r.2.1 r.2.2 (adrs++more) F'∧(∀k,F k→F' k)∧(∀k,F' k→F k∨w.heap.size≤k)∧pv=ptrTo (adrs++more) r.1
 kept:Kept [b] w w'
 idx:r.1<r.2.2.length
end Go.Proofs.YtgifhgnccmnbiabGreat
namespace Go.Proofs.YtgifhgnccmnbiabGreat
def plainS (t:ByteArray) (c:Int) (st:PS):Nat×PS:=
 if c=46 then bytesS 0 255 st
 else if c=94 then addS { kind:=2,size:=1 } st
 else if c=36 then addS { kind:=3,size:=1 } st
 else if c=92 then bytesS (nextS t st.1).1 (nextS t st.1).1 ((nextS t st.1).2,st.2)
 else if c=41∨c=124∨c=42∨c=43∨c=63∨c=123 then bytesS c c (failS t,st.2)
 else bytesS c c st
def closeS (t:ByteArray) (r:Nat×PS):Nat×PS:=(r.1,(if (takeS t 41 r.2.1).1=true then (takeS t 41 r.2.1).2 else failS t,r.2.2))
def goS (t:ByteArray):Nat→Nat→Nat→PS→Nat×PS
 | 0,_,cur,st=>(cur,st)
 | f+1,tag,cur,st=>
   if tag=0 then goS t f 4 (goS t f 1 0 st).1 (goS t f 1 0 st).2
   else if tag=1 then
    if endS t st.1=true then addS { kind:=0,size:=1 } st
    else goS t f 5 (goS t f 2 0 st).1 (goS t f 2 0 st).2
   else if tag=2 then goS t f 6 (goS t f 3 0 st).1 (goS t f 3 0 st).2
   else if tag=3 then
    if (nextS t st.1).1=40 then closeS t (goS t f 0 0 ((nextS t st.1).2,st.2))
    else if (nextS t st.1).1=91 then listS t ((nextS t st.1).2,st.2)
    else plainS t (nextS t st.1).1 ((nextS t st.1).2,st.2)
   else if tag=4 then
    if (takeS t 124 st.1).1=true then
     goS t f 4 (joinS 5 cur (goS t f 1 0 ((takeS t 124 st.1).2,st.2)).1 (goS t f 1 0 ((takeS t 124 st.1).2,st.2)).2).1 (joinS 5 cur (goS t f 1 0 ((takeS t 124 st.1).2,st.2)).1 (goS t f 1 0 ((takeS t 124 st.1).2,st.2)).2).2
    else (cur,st)
   else if tag=5 then
    if endS t st.1=true then (cur,st)
    else goS t f 5 (joinS 4 cur (goS t f 2 0 st).1 (goS t f 2 0 st).2).1 (joinS 4 cur (goS t f 2 0 st).1 (goS t f 2 0 st).2).2
   else
    if repS t st.1=true then goS t f 6 (againS cur (repeatS t st.1).1 ((repeatS t st.1).2,st.2)).1 (againS cur (repeatS t st.1).1 ((repeatS t st.1).2,st.2)).2
    else (cur,st)
def Ev (t:ByteArray) (tag cur:Nat) (st:PS) (r:Nat×PS):Prop:=∃f0,∀f,f0≤f→goS t f tag cur st=r
theorem ev_max {p q:Nat→Prop} (hp:∃a,∀f,a≤f→p f) (hq:∃a,∀f,a≤f→q f):∃a,∀f,a≤f→p f∧q f:=by
 obtain ⟨a,ha⟩:=hp
 obtain ⟨c,hc⟩:=hq
 exact ⟨a+c,fun f hf=>⟨ha f (by omega),hc f (by omega)⟩⟩
theorem ev_succ {p:Nat→Prop} (hp:∃a,∀f,a≤f→p (f+1)):∃a,∀f,a≤f→p f:=by
 obtain ⟨a,ha⟩:=hp
 refine ⟨a+1,fun f hf=>?_⟩
 obtain ⟨g,rfl⟩:∃g,f=g+1:=⟨f-1,by omega⟩
 exact ha g (by omega)
section
variable {t:ByteArray} {cur:Nat} {st:PS} {r r1:Nat×PS}
theorem Ev.pattern (h1:Ev t 1 0 st r1) (h2:Ev t 4 r1.1 r1.2 r):Ev t 0 0 st r:=
 ev_succ (by obtain ⟨a,h⟩:=ev_max h1 h2;exact ⟨a,fun f hf=>by obtain ⟨x,y⟩:=h f hf;rw [goS,if_pos rfl,x,y]⟩)
theorem Ev.empty (he:endS t st.1=true):Ev t 1 0 st (addS { kind:=0,size:=1 } st):=
 ev_succ ⟨0,fun f _=>by rw [goS,if_neg (by decide),if_pos rfl,if_pos he]⟩
theorem Ev.branch (he:endS t st.1=false) (h1:Ev t 2 0 st r1) (h2:Ev t 5 r1.1 r1.2 r):Ev t 1 0 st r:=
 ev_succ (by obtain ⟨a,h⟩:=ev_max h1 h2;exact ⟨a,fun f hf=>by obtain ⟨x,y⟩:=h f hf;rw [goS,if_neg (by decide),if_pos rfl,if_neg (by rw [he];decide),x,y]⟩)
theorem Ev.piece (h1:Ev t 3 0 st r1) (h2:Ev t 6 r1.1 r1.2 r):Ev t 2 0 st r:=
 ev_succ (by obtain ⟨a,h⟩:=ev_max h1 h2;exact ⟨a,fun f hf=>by obtain ⟨x,y⟩:=h f hf;rw [goS,if_neg (by decide),if_neg (by decide),if_pos rfl,x,y]⟩)
theorem Ev.group (he:(nextS t st.1).1=40) (h1:Ev t 0 0 ((nextS t st.1).2,st.2) r1):Ev t 3 0 st (closeS t r1):=
 ev_succ (by obtain ⟨a,h⟩:=h1;exact ⟨a,fun f hf=>by rw [goS,if_neg (by decide),if_neg (by decide),if_neg (by decide),if_pos rfl,if_pos he,h f hf]⟩)
theorem Ev.list (he:(nextS t st.1).1=91):Ev t 3 0 st (listS t ((nextS t st.1).2,st.2)):=
 ev_succ ⟨0,fun f _=>by rw [goS,if_neg (by decide),if_neg (by decide),if_neg (by decide),if_pos rfl,if_neg (by rw [he];decide),if_pos he]⟩
theorem Ev.plain (h1:(nextS t st.1).1≠40) (h2:(nextS t st.1).1≠91):Ev t 3 0 st (plainS t (nextS t st.1).1 ((nextS t st.1).2,st.2)):=
 ev_succ ⟨0,fun f _=>by rw [goS,if_neg (by decide),if_neg (by decide),if_neg (by decide),if_pos rfl,if_neg h1,if_neg h2]⟩
theorem Ev.or (he:(takeS t 124 st.1).1=true) (h1:Ev t 1 0 ((takeS t 124 st.1).2,st.2) r1) (h2:Ev t 4 (joinS 5 cur r1.1 r1.2).1 (joinS 5 cur r1.1 r1.2).2 r):Ev t 4 cur st r:=
 ev_succ (by obtain ⟨a,h⟩:=ev_max h1 h2;exact ⟨a,fun f hf=>by
  obtain ⟨x,y⟩:=h f hf
  rw [goS,if_neg (by decide),if_neg (by decide),if_neg (by decide),if_neg (by decide),if_pos rfl,if_pos he,x,y]⟩)
theorem Ev.orEnd (he:(takeS t 124 st.1).1=false):Ev t 4 cur st (cur,st):=
 ev_succ ⟨0,fun f _=>by rw [goS,if_neg (by decide),if_neg (by decide),if_neg (by decide),if_neg (by decide),if_pos rfl,if_neg (by rw [he];decide)]⟩
theorem Ev.and (he:endS t st.1=false) (h1:Ev t 2 0 st r1) (h2:Ev t 5 (joinS 4 cur r1.1 r1.2).1 (joinS 4 cur r1.1 r1.2).2 r):Ev t 5 cur st r:=
 ev_succ (by obtain ⟨a,h⟩:=ev_max h1 h2;exact ⟨a,fun f hf=>by
  obtain ⟨x,y⟩:=h f hf
  rw [goS,if_neg (by decide),if_neg (by decide),if_neg (by decide),if_neg (by decide),if_neg (by decide),if_pos rfl,if_neg (by rw [he];decide),x,y]⟩)
theorem Ev.andEnd (he:endS t st.1=true):Ev t 5 cur st (cur,st):=
 ev_succ ⟨0,fun f _=>by rw [goS,if_neg (by decide),if_neg (by decide),if_neg (by decide),if_neg (by decide),if_neg (by decide),if_pos rfl,if_pos he]⟩
theorem Ev.rep (he:repS t st.1=true) (h2:Ev t 6 (againS cur (repeatS t st.1).1 ((repeatS t st.1).2,st.2)).1 (againS cur (repeatS t st.1).1 ((repeatS t st.1).2,st.2)).2 r):Ev t 6 cur st r:=
 ev_succ (by obtain ⟨a,h⟩:=h2;exact ⟨a,fun f hf=>by
  rw [goS,if_neg (by decide),if_neg (by decide),if_neg (by decide),if_neg (by decide),if_neg (by decide),if_neg (by decide),if_pos he,h f hf]⟩)
theorem Ev.repEnd (he:repS t st.1=false):Ev t 6 cur st (cur,st):=
 ev_succ ⟨0,fun f _=>by rw [goS,if_neg (by decide),if_neg (by decide),if_neg (by decide),if_neg (by decide),if_neg (by decide),if_neg (by decide),if_neg (by rw [he];decide)]⟩
theorem Ev.one {tag:Nat} {r':Nat×PS} (h:Ev t tag cur st r) (h':Ev t tag cur st r'):r=r':=by
 obtain ⟨a,ha⟩:=h
 obtain ⟨c,hc⟩:=h'
 rw [←ha (a+c) (by omega),hc (a+c) (by omega)]
end
end Go.Proofs.YtgifhgnccmnbiabGreat
