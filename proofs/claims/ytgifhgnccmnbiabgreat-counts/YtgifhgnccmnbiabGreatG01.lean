/- The ground of the walks: a block in memory as a whole, what a call keeps of the world, and how a block reads cell by cell. -/
import Derived.Test.YtgifhgnccmnbiabGreatRows
import Derived.WalkKit
import Derived.WalkSpells
import Derived.WalkLawsBesides
import Derived.BigQuiet
import Derived.Deep.QuietTactic
import Derived.Deep.RegionWith
set_option linter.unusedVariables false
set_option linter.unusedSimpArgs false
set_option maxHeartbeats 4000000
set_option maxRecDepth 100000
namespace Go.Proofs.YtgifhgnccmnbiabGreat
open Go.RowKit
structure Kept (S:List Nat) (w w':World):Prop where
 os:w'.os=w.os
 tape:w'.tape=w.tape
 output:w'.output=w.output
 size:w.heap.size≤w'.heap.size
 block:∀k,k<w.heap.size→¬k∈S→w'.heap[k]?=w.heap[k]?
theorem Kept.refl (S:List Nat) (w:World):Kept S w w:=⟨rfl,rfl,rfl,Nat.le_refl _,fun _ _ _=>rfl⟩
theorem Kept.trans {S:List Nat} {a b c:World} (h:Kept S a b) (k:Kept S b c):Kept S a c:=
 ⟨k.os.trans h.os,k.tape.trans h.tape,k.output.trans h.output,Nat.le_trans h.size k.size,fun i hi hs=>(k.block i (Nat.lt_of_lt_of_le hi h.size) hs).trans (h.block i hi hs)⟩
theorem Kept.drew {S:List Nat} {a w:World} (h:Kept S a w):Kept S a w.drew:=⟨h.os,h.tape,h.output,h.size,h.block⟩
theorem Kept.drewN {S:List Nat} {a w:World} (h:Kept S a w) (n:Nat):Kept S a (w.drewN n):=⟨h.os,h.tape,h.output,h.size,h.block⟩
theorem Kept.alloc {S:List Nat} {a w:World} (h:Kept S a w) (o:Obj):Kept S a (w.alloc o):=
 h.trans ⟨rfl,rfl,rfl,by simp,fun k hk _=>Below.heap_alloc _ _ _ hk⟩
theorem Kept.setCell {S:List Nat} {a w:World} (h:Kept S a w) {p:Addr} (hp:p.block∈S∨a.heap.size≤p.block) (u:Value):Kept S a (w.setCell p u):=
 ⟨h.os,h.tape,h.output,by simpa [World.setCell] using h.size,fun k hk hs=>by
  rw [Below.heap_setCell _ _ _ _ (by rintro rfl;rcases hp with hp | hp;exact hs hp;omega)];exact h.block k hk hs⟩
theorem Kept.mono {S S':List Nat} {w w':World} (h:Kept S w w') (hs:∀k,k∈S→k∈S'):Kept S' w w':=
 ⟨h.os,h.tape,h.output,h.size,fun k hk hk'=>h.block k hk (fun e=>hk' (hs k e))⟩
theorem Kept.below {S:List Nat} {w w':World} {B:Nat} (h:Kept S w w') (hB:B≤w.heap.size) (hs:∀k,k∈S→B≤k):Below B w w':=
 ⟨h.os,h.tape,h.output,h.size,fun k hk=>h.block k (by omega) (fun e=>by have:=hs k e;omega)⟩
def Blk (w:World) (b:Nat) (cs:Array Value) (e:TypeId):Prop:=w.heap[b]?=some (.cells cs e (0,0))
theorem Blk.lt {w:World} {b:Nat} {cs:Array Value} {e:TypeId} (h:Blk w b cs e):b<w.heap.size:=(Array.getElem?_eq_some_iff.1 h).1
theorem Blk.cell {w:World} {b:Nat} {cs:Array Value} {e:TypeId} (h:Blk w b cs e) (j:Nat):w.cell? ⟨b,j,none⟩=cs[j]?:=by
 unfold Blk at h;simp [World.cell?,h]
theorem Blk.frozen {w:World} {b:Nat} {cs:Array Value} {e:TypeId} (h:Blk w b cs e) (j:Nat):w.frozen? ⟨b,j,none⟩=false:=by
 unfold Blk at h;simp [World.frozen?,h]
theorem Blk.kept {S:List Nat} {w w':World} {b:Nat} {cs:Array Value} {e:TypeId} (h:Blk w b cs e) (k:Kept S w w') (hb:¬b∈S):Blk w' b cs e:=
 (k.block b h.lt hb).trans h
theorem Blk.drew {w:World} {b:Nat} {cs:Array Value} {e:TypeId} (h:Blk w b cs e):Blk w.drew b cs e:=h
theorem Blk.alloc {w:World} {b:Nat} {cs:Array Value} {e:TypeId} (h:Blk w b cs e) (o:Obj):Blk (w.alloc o) b cs e:=
 (Below.heap_alloc _ _ _ h.lt).trans h
theorem Blk.new (w:World) (cs:Array Value) (e:TypeId):Blk (w.alloc (.cells cs e)) w.heap.size cs e:=heap_alloc_new w _
theorem Blk.set {w:World} {b:Nat} {cs:Array Value} {e:TypeId} (h:Blk w b cs e) (j:Nat) (v:Value):Blk (w.setCell ⟨b,j,none⟩ v) b (cs.setIfInBounds j v) e:=by
 unfold Blk at *;simp [World.setCell,Array.getElem?_modify,h]
theorem Blk.other {w:World} {b b':Nat} {cs:Array Value} {e:TypeId} (h:Blk w b cs e) (j:Nat) (v:Value) (hn:b≠b'):Blk (w.setCell ⟨b',j,none⟩ v) b cs e:=
 (Below.heap_setCell _ _ _ _ hn).trans h
theorem ret_int {k:IntKind} {a b:Int} (h:a=b):Ending.returned (.int k a)=.returned (.int k b):=by rw [h]
theorem ret_bool {a b:Bool} (h:a=b):Ending.returned (.bool a)=.returned (.bool b):=by rw [h]
end Go.Proofs.YtgifhgnccmnbiabGreat
namespace Go.Proofs.YtgifhgnccmnbiabGreat
def pk (t:ByteArray) (p:Nat):Int:=if h:p<t.size then (t[p].toNat:Int) else -1
theorem pk_lt {t:ByteArray} {p:Nat} (h:p<t.size):pk t p=(t[p].toNat:Int):=dif_pos h
theorem pk_ge {t:ByteArray} {p:Nat} (h:¬p<t.size):pk t p = -1:=dif_neg h
theorem pk_bd (t:ByteArray) (p:Nat):-1≤pk t p∧pk t p≤255:=by
 by_cases h:p<t.size
 · rw [pk_lt h];have:=t[p].toNat_lt;omega
 · rw [pk_ge h];omega
theorem pk_none {t:ByteArray} {p:Nat}:pk t p = -1↔¬p<t.size:=by
 constructor
 · intro h hl;rw [pk_lt hl] at h;omega
 · exact pk_ge
theorem pk_some {t:ByteArray} {p:Nat} (h:0≤pk t p):p<t.size:=by
 by_cases hl:p<t.size
 · exact hl
 · rw [pk_ge hl] at h;omega
abbrev RS:=Nat×Bool
def failS (t:ByteArray):RS:=(t.size,true)
def nextS (t:ByteArray) (s:RS):Int×RS:=if pk t s.1 = -1 then (0,failS t) else (pk t s.1,(s.1+1,s.2))
def takeS (t:ByteArray) (c:Int) (s:RS):Bool×RS:=if pk t s.1=c then (true,(s.1+1,s.2)) else (false,s)
def endS (t:ByteArray) (s:RS):Bool:=pk t s.1==-1 || pk t s.1==124 || pk t s.1==41
def repS (t:ByteArray) (s:RS):Bool:=pk t s.1==42 || pk t s.1==43 || pk t s.1==63 || pk t s.1==123
def itemQ (t:ByteArray) (s:RS):Bool:=pk t s.1 != -1&&pk t s.1 != 93
def secS (t:ByteArray) (s:RS):Bool:=pk t s.1==45&&pk t (s.1+1) != -1&&pk t (s.1+1) != 93
def memS (t:ByteArray) (s:RS):Int×RS:=if (nextS t s).1=92 then nextS t (nextS t s).2 else nextS t s
def highS (t:ByteArray) (s:RS):Int×RS:=
 if secS t (memS t s).2=true then memS t ((memS t s).2.1+1,(memS t s).2.2) else memS t s
def itemS (t:ByteArray) (s:RS):(Int×Int)×RS:=
 (((memS t s).1,(highS t s).1),if (highS t s).1<(memS t s).1 then failS t else (highS t s).2)
def digS (t:ByteArray) (s:RS):Int×RS:=
 if (nextS t s).1<48∨57<(nextS t s).1 then (0,failS t) else ((nextS t s).1-48,(nextS t s).2)
def upS (t:ByteArray) (s:RS):Int×RS:=if pk t s.1=125 then (-1,s) else digS t s
def mostS (t:ByteArray) (s:RS):Int×RS:=
 if (takeS t 44 (digS t s).2).1=true then upS t (takeS t 44 (digS t s).2).2 else ((digS t s).1,(takeS t 44 (digS t s).2).2)
def bracesS (t:ByteArray) (s:RS):(Int×Int)×RS:=
 if (takeS t 125 (mostS t s).2).1=false∨((mostS t s).1≠-1∧(mostS t s).1<(digS t s).1) then ((0,0),failS t)
 else (((digS t s).1,(mostS t s).1),(takeS t 125 (mostS t s).2).2)
def repeatS (t:ByteArray) (s:RS):(Int×Int)×RS:=
 if (nextS t s).1=42 then ((0,-1),(nextS t s).2)
 else if (nextS t s).1=43 then ((1,-1),(nextS t s).2)
 else if (nextS t s).1=63 then ((0,1),(nextS t s).2)
 else bracesS t (nextS t s).2
def Fits (t:ByteArray) (s:RS):Prop:=s.1≤t.size
theorem fits_fail (t:ByteArray):Fits t (failS t):=Nat.le_refl _
theorem fits_next {t:ByteArray} {s:RS} (_h:Fits t s):Fits t (nextS t s).2:=by
 unfold nextS;split
 · exact fits_fail t
 · rename_i hn;rw [pk_none] at hn;simp only [Fits];omega
theorem fits_take {t:ByteArray} {s:RS} {c:Int} (hc:0≤c) (h:Fits t s):Fits t (takeS t c s).2:=by
 unfold takeS;split
 · rename_i hn;have:=pk_some (t:=t) (p:=s.1) (by omega);simp only [Fits];omega
 · exact h
theorem fits_mem {t:ByteArray} {s:RS} (h:Fits t s):Fits t (memS t s).2:=by
 unfold memS;split
 · exact fits_next (fits_next h)
 · exact fits_next h
theorem fits_sec {t:ByteArray} {s:RS} (h:secS t s=true):s.1<t.size:=by
 simp only [secS,Bool.and_eq_true,beq_iff_eq] at h
 exact pk_some (by omega)
theorem fits_high {t:ByteArray} {s:RS} (h:Fits t s):Fits t (highS t s).2:=by
 unfold highS;split
 · rename_i hs;exact fits_mem (fits_sec hs)
 · exact fits_mem h
theorem fits_item {t:ByteArray} {s:RS} (h:Fits t s):Fits t (itemS t s).2:=by
 unfold itemS;simp only [];split
 · exact fits_fail t
 · exact fits_high h
theorem fits_dig {t:ByteArray} {s:RS} (h:Fits t s):Fits t (digS t s).2:=by
 unfold digS;split
 · exact fits_fail t
 · exact fits_next h
theorem fits_up {t:ByteArray} {s:RS} (h:Fits t s):Fits t (upS t s).2:=by
 unfold upS;split
 · exact h
 · exact fits_dig h
theorem fits_most {t:ByteArray} {s:RS} (h:Fits t s):Fits t (mostS t s).2:=by
 unfold mostS;split
 · exact fits_up (fits_take (by omega) (fits_dig h))
 · exact fits_take (by omega) (fits_dig h)
theorem fits_braces {t:ByteArray} {s:RS} (h:Fits t s):Fits t (bracesS t s).2:=by
 unfold bracesS;split
 · exact fits_fail t
 · exact fits_take (by omega) (fits_most h)
theorem fits_repeat {t:ByteArray} {s:RS} (h:Fits t s):Fits t (repeatS t s).2:=by
 unfold repeatS
 repeat' split
 all_goals first | exact fits_next h | exact fits_braces (fits_next h)
theorem next_bd (t:ByteArray) (s:RS):0≤(nextS t s).1∧(nextS t s).1≤255:=by
 have:=pk_bd t s.1
 unfold nextS;split <;> simp only [] <;> omega
theorem dig_bd (t:ByteArray) (s:RS):0≤(digS t s).1∧(digS t s).1≤9:=by
 unfold digS;split
 · simp
 · rename_i h;simp only [];omega
theorem up_bd (t:ByteArray) (s:RS):-1≤(upS t s).1∧(upS t s).1≤9:=by
 have:=dig_bd t s
 unfold upS;split
 · simp
 · omega
theorem most_bd (t:ByteArray) (s:RS):-1≤(mostS t s).1∧(mostS t s).1≤9:=by
 have h1:=dig_bd t s
 unfold mostS;split
 · exact up_bd _ _
 · simp only [];omega
theorem repeat_bd (t:ByteArray) (s:RS):0≤(repeatS t s).1.1∧(repeatS t s).1.1≤9∧-1≤(repeatS t s).1.2∧(repeatS t s).1.2≤9:=by
 have h1:=dig_bd t (nextS t s).2
 have h2:=most_bd t (nextS t s).2
 unfold repeatS
 repeat' split
 all_goals try simp
 unfold bracesS
 split
 · simp
 · simp only [];omega
structure AN where
 kind:Int
 its:List (Int×Int):=[]
 neg:Bool:=false
 left:Int:=0
 right:Int:=0
 least:Int:=0
 most:Int:=0
 size:Int
def capN (n:AN):AN:={ n with size:=if 61<n.size then 61 else n.size }
abbrev PS:=RS×List AN
def sizeAt (ns:List AN) (i:Nat):Int:=((ns[i]?).map AN.size).getD 0
def addS (n:AN) (st:PS):Nat×PS:=(st.2.length,(st.1,st.2++[capN n]))
def joinS (kind:Int) (l r:Nat) (st:PS):Nat×PS:=addS { kind:=kind,left:=l,right:=r,size:=sizeAt st.2 l+sizeAt st.2 r } st
def timesS (least most:Int):Int:=if (if most = -1 then least else most)<1 then 1 else (if most = -1 then least else most)
def againS (p:Nat) (lm:Int×Int) (st:PS):Nat×PS:=
 addS { kind:=6,left:=p,least:=lm.1,most:=lm.2,size:=sizeAt st.2 p*timesS lm.1 lm.2 } st
def bytesS (lo hi:Int) (st:PS):Nat×PS:=addS { kind:=1,its:=[(lo,hi)],size:=1 } st
def Sized (ns:List AN):Prop:=∀n,n∈ns→0≤n.size∧n.size≤61
theorem sizeAt_bd {ns:List AN} (h:Sized ns) (i:Nat):0≤sizeAt ns i∧sizeAt ns i≤61:=by
 unfold sizeAt
 cases hi:ns[i]? with
 | none=>simp
 | some n=>simpa using h n (List.mem_of_getElem? hi)
theorem sized_add {n:AN} {st:PS} (h:Sized st.2) (hn:0≤n.size):Sized (addS n st).2.2:=by
 intro m hm
 simp only [addS,List.mem_append,List.mem_singleton] at hm
 rcases hm with hm | rfl
 · exact h m hm
 · simp only [capN];split <;> omega
theorem next_ge {t:ByteArray} {s:RS} (h:Fits t s):s.1≤(nextS t s).2.1:=by
 unfold nextS;split
 · exact h
 · exact Nat.le_succ _
theorem next_gt {t:ByteArray} {s:RS} (h:s.1<t.size):s.1<(nextS t s).2.1:=by
 unfold nextS;split
 · exact h
 · exact Nat.lt_succ_self _
theorem take_ge {t:ByteArray} {s:RS} {c:Int}:s.1≤(takeS t c s).2.1:=by
 unfold takeS;split
 · exact Nat.le_succ _
 · exact Nat.le_refl _
theorem take_gt {t:ByteArray} {s:RS} {c:Int} (h:(takeS t c s).1=true):s.1<(takeS t c s).2.1:=by
 unfold takeS at *;split
 · exact Nat.lt_succ_self _
 · rename_i hc;rw [if_neg hc] at h;cases h
theorem mem_ge {t:ByteArray} {s:RS} (h:Fits t s):s.1≤(memS t s).2.1:=by
 unfold memS;split
 · exact Nat.le_trans (next_ge h) (next_ge (fits_next h))
 · exact next_ge h
theorem mem_gt {t:ByteArray} {s:RS} (h:s.1<t.size):s.1<(memS t s).2.1:=by
 have hf:Fits t s:=Nat.le_of_lt h
 unfold memS;split
 · exact Nat.lt_of_lt_of_le (next_gt h) (next_ge (fits_next hf))
 · exact next_gt h
theorem high_gt {t:ByteArray} {s:RS} (h:s.1<t.size):s.1<(highS t s).2.1:=by
 have h1:=mem_gt h
 unfold highS;split
 · rename_i hq
   have:=mem_ge (t:=t) (s:=((memS t s).2.1+1,(memS t s).2.2)) (fits_sec hq)
   simp only [] at this
   omega
 · exact h1
theorem item_gt {t:ByteArray} {s:RS} (h:s.1<t.size):s.1<(itemS t s).2.1:=by
 unfold itemS;simp only [];split
 · exact h
 · exact high_gt h
theorem itemQ_lt {t:ByteArray} {s:RS} (h:itemQ t s=true):s.1<t.size:=by
 simp only [itemQ,Bool.and_eq_true,bne_iff_ne] at h
 have:=h.1
 rw [Ne,pk_none] at this
 omega
theorem dig_ge {t:ByteArray} {s:RS} (h:Fits t s):s.1≤(digS t s).2.1:=by
 unfold digS;split
 · exact h
 · exact next_ge h
theorem up_ge {t:ByteArray} {s:RS} (h:Fits t s):s.1≤(upS t s).2.1:=by
 unfold upS;split
 · exact Nat.le_refl _
 · exact dig_ge h
theorem most_ge {t:ByteArray} {s:RS} (h:Fits t s):s.1≤(mostS t s).2.1:=by
 have h1:=dig_ge h
 have h2:=take_ge (t:=t) (c:=44) (s:=(digS t s).2)
 unfold mostS;split
 · exact Nat.le_trans h1 (Nat.le_trans h2 (up_ge (fits_take (by omega) (fits_dig h))))
 · exact Nat.le_trans h1 h2
theorem braces_ge {t:ByteArray} {s:RS} (h:Fits t s):s.1≤(bracesS t s).2.1:=by
 unfold bracesS;split
 · exact h
 · exact Nat.le_trans (most_ge h) take_ge
theorem repeat_gt {t:ByteArray} {s:RS} (h:s.1<t.size):s.1<(repeatS t s).2.1:=by
 have h1:=next_gt h
 have h2:=braces_ge (t:=t) (s:=(nextS t s).2) (fits_next (Nat.le_of_lt h))
 unfold repeatS
 repeat' split
 all_goals first | exact h1 | exact Nat.lt_of_lt_of_le h1 h2
theorem repS_lt {t:ByteArray} {s:RS} (h:repS t s=true):s.1<t.size:=by
 refine pk_some ?_
 simp only [repS,Bool.or_eq_true,beq_iff_eq] at h
 omega
theorem endS_lt {t:ByteArray} {s:RS} (h:endS t s=false):s.1<t.size:=by
 simp only [endS,Bool.or_eq_false_iff,beq_eq_false_iff_ne] at h
 have:=h.1.1
 rw [Ne,pk_none] at this
 omega
def itemsF (t:ByteArray):Nat→RS→List (Int×Int)→List (Int×Int)×RS
 | 0,s,acc=>(acc,s)
 | f+1,s,acc=>if itemQ t s=true then itemsF t f (itemS t s).2 (acc++[(itemS t s).1]) else (acc,s)
theorem itemsF_more (t:ByteArray):∀(f g:Nat) (s:RS) (acc:List (Int×Int)),t.size-s.1≤f→t.size-s.1≤g→itemsF t f s acc=itemsF t g s acc
 | 0,0,_,_,_,_=>rfl
 | 0,g+1,s,acc,h,_=>by
   rw [itemsF,itemsF,if_neg]
   intro hq;have:=itemQ_lt hq;omega
 | f+1,0,s,acc,_,h=>by
   rw [itemsF,itemsF,if_neg]
   intro hq;have:=itemQ_lt hq;omega
 | f+1,g+1,s,acc,h1,h2=>by
   rw [itemsF,itemsF]
   split
   · rename_i hq
     have:=item_gt (itemQ_lt hq)
     have:=itemQ_lt hq
     exact itemsF_more t f g _ _ (by omega) (by omega)
   · rfl
def itemsS (t:ByteArray) (s:RS) (acc:List (Int×Int)):List (Int×Int)×RS:=itemsF t (t.size-s.1) s acc
theorem itemsS_on {t:ByteArray} {s:RS} {acc:List (Int×Int)} (h:itemQ t s=true):itemsS t s acc=itemsS t (itemS t s).2 (acc++[(itemS t s).1]):=by
 have h1:=itemQ_lt h
 have h2:=item_gt h1
 unfold itemsS
 obtain ⟨f,hf⟩:∃f,t.size-s.1=f+1:=⟨t.size-s.1-1,by omega⟩
 rw [hf,itemsF,if_pos h]
 exact itemsF_more t _ _ _ _ (by omega) (Nat.le_refl _)
theorem itemsS_off {t:ByteArray} {s:RS} {acc:List (Int×Int)} (h:itemQ t s=false):itemsS t s acc=(acc,s):=by
 unfold itemsS
 cases t.size-s.1 with
 | zero=>rfl
 | succ f=>rw [itemsF,if_neg (by rw [h];decide)]
theorem itemsF_ge (t:ByteArray):∀(f:Nat) (s:RS) (acc:List (Int×Int)),s.1≤(itemsF t f s acc).2.1
 | 0,s,_=>Nat.le_refl _
 | f+1,s,acc=>by
   rw [itemsF]
   split
   · rename_i hq;exact Nat.le_trans (Nat.le_of_lt (item_gt (itemQ_lt hq))) (itemsF_ge t f _ _)
   · exact Nat.le_refl _
theorem itemsS_ge {t:ByteArray} {s:RS} {acc:List (Int×Int)} (h:Fits t s):s.1≤(itemsS t s acc).2.1:=itemsF_ge t _ s acc
def listS (t:ByteArray) (st:PS):Nat×PS:=
 let a:=takeS t 94 st.1
 let i:=itemsS t a.2 []
 let c:=takeS t 93 i.2
 addS { kind:=1,its:=i.1,neg:=a.1,size:=1 } (if c.1=false∨i.1.length=0 then failS t else c.2,st.2)
def tkS (t:ByteArray) (s:RS):Int×RS:=if s.1<t.size then (pk t s.1,(s.1+1,s.2)) else (0,(s.1,true))
def stB (t:ByteArray) (s:RS) (l:List UInt8):Bool:=l.any (fun c=>pk t s.1==(c.toNat:Int))
def markS (s:RS):RS:=(s.1,true)
theorem tk_ge {t:ByteArray} {s:RS}:s.1≤(tkS t s).2.1:=by
 unfold tkS;split
 · exact Nat.le_succ _
 · exact Nat.le_refl _
theorem fits_tk {t:ByteArray} {s:RS} (h:Fits t s):Fits t (tkS t s).2:=by
 unfold tkS;split
 · rename_i h2;exact h2
 · exact h
theorem tk_bd (t:ByteArray) (s:RS):0≤(tkS t s).1∧(tkS t s).1≤255:=by
 unfold tkS;split
 · rename_i h;rw [pk_lt h];have:=t[s.1].toNat_lt;simp only [];omega
 · simp
def memR (t:ByteArray) (s:RS):Int×RS:=tkS t (takeS t 92 (if stB t s [93]=true then markS s else s)).2
theorem fits_memR {t:ByteArray} {s:RS} (h:Fits t s):Fits t (memR t s).2:=by
 unfold memR
 refine fits_tk (fits_take (by omega) ?_)
 split <;> exact h
theorem memR_bd (t:ByteArray) (s:RS):0≤(memR t s).1∧(memR t s).1≤255:=tk_bd _ _
theorem memR_ge {t:ByteArray} {s:RS}:s.1≤(memR t s).2.1:=by
 unfold memR
 refine Nat.le_trans ?_ (Nat.le_trans take_ge tk_ge)
 split <;> exact Nat.le_refl _
theorem memR_on {t:ByteArray} {s:RS}:s.1<(memR t s).2.1∨(memR t s).2.2=true:=by
 unfold memR
 generalize hx:(if stB t s [93]=true then markS s else s)=x
 have hx1:x.1=s.1:=by rw [←hx];split <;> rfl
 generalize hy:(takeS t 92 x).2=y
 have h1:x.1≤y.1:=by rw [←hy];exact take_ge
 unfold tkS
 split
 · left;simp only [];omega
 · right;rfl
theorem tk_bad {t:ByteArray} {s:RS} (h:s.2=true):(tkS t s).2.2=true:=by unfold tkS;split <;> first | exact h | rfl
theorem take_bad {t:ByteArray} {c:Int} {s:RS} (h:s.2=true):(takeS t c s).2.2=true:=by unfold takeS;split <;> exact h
theorem memR_bad {t:ByteArray} {s:RS} (h:s.2=true):(memR t s).2.2=true:=by
 unfold memR
 refine tk_bad (take_bad ?_)
 split
 · rfl
 · exact h
def toR (t:ByteArray) (s:RS):Int×RS:=if secS t (memR t s).2=true then memR t (tkS t (memR t s).2).2 else memR t s
def fillB (f:Nat→Bool) (lo hi:Int):Nat→Bool:=fun i=>f i || decide (lo≤(i:Int)∧(i:Int)≤hi)
def itemR (t:ByteArray) (s:RS) (f:Nat→Bool):RS×(Nat→Bool):=
 (if (toR t s).1<(memR t s).1 then markS (toR t s).2 else (toR t s).2,fillB f (memR t s).1 (toR t s).1)
theorem fits_toR {t:ByteArray} {s:RS} (h:Fits t s):Fits t (toR t s).2:=by
 have h1:=fits_memR h
 unfold toR
 split
 · exact fits_memR (fits_tk h1)
 · exact h1
theorem toR_bd (t:ByteArray) (s:RS):0≤(toR t s).1∧(toR t s).1≤255:=by
 unfold toR
 split
 · exact memR_bd _ _
 · exact memR_bd _ _
theorem toR_ge {t:ByteArray} {s:RS}:(memR t s).2.1≤(toR t s).2.1:=by
 unfold toR
 split
 · exact Nat.le_trans tk_ge memR_ge
 · exact Nat.le_refl _
theorem toR_bad {t:ByteArray} {s:RS} (h:(memR t s).2.2=true):(toR t s).2.2=true:=by
 unfold toR
 split
 · exact memR_bad (tk_bad h)
 · exact h
theorem fits_itemR {t:ByteArray} {s:RS} {f:Nat→Bool} (h:Fits t s):Fits t (itemR t s f).1:=by
 unfold itemR
 simp only []
 split
 · exact fits_toR h
 · exact fits_toR h
theorem itemR_ge {t:ByteArray} {s:RS} {f:Nat→Bool}:s.1≤(itemR t s f).1.1:=by
 unfold itemR
 simp only []
 split
 · exact Nat.le_trans memR_ge toR_ge
 · exact Nat.le_trans memR_ge toR_ge
theorem itemR_on {t:ByteArray} {s:RS} {f:Nat→Bool}:s.1<(itemR t s f).1.1∨(itemR t s f).1.2=true:=by
 have h0:=memR_on (t:=t) (s:=s)
 have h2:=toR_ge (t:=t) (s:=s)
 unfold itemR
 simp only []
 split
 · right;rfl
 · rcases h0 with h0 | h0
   · left;omega
   · right;exact toR_bad h0
def itemsG (t:ByteArray):Nat→RS→(Nat→Bool)→RS×(Nat→Bool)
 | 0,s,f=>(s,f)
 | n+1,s,f=>
   if s.2=true then (s,f)
   else if (takeS t 93 (itemR t s f).1).1=true then ((takeS t 93 (itemR t s f).1).2,(itemR t s f).2)
   else itemsG t n (takeS t 93 (itemR t s f).1).2 (itemR t s f).2
def leftR (t:ByteArray) (s:RS):Nat:=if s.2=true then 0 else t.size-s.1+1
theorem leftR_down {t:ByteArray} {s:RS} {f:Nat→Bool} (hf:Fits t s) (hb:s.2=false):leftR t (takeS t 93 (itemR t s f).1).2<leftR t s:=by
 have h1:=itemR_on (t:=t) (s:=s) (f:=f)
 have h2:=take_ge (t:=t) (c:=93) (s:=(itemR t s f).1)
 have h3:=fits_itemR (f:=f) hf
 have h4:=fits_take (c:=93) (by omega) h3
 simp only [Fits] at h3 h4 hf
 have e:leftR t s=t.size-s.1+1:=by unfold leftR;rw [if_neg (by rw [hb];decide)]
 rw [e]
 unfold leftR
 rcases h1 with h1 | h1
 · split <;> omega
 · rw [if_pos (take_bad h1)];omega
theorem itemsG_more (t:ByteArray):∀(m n:Nat) (s:RS) (f:Nat→Bool),Fits t s→leftR t s≤m→leftR t s≤n→itemsG t m s f=itemsG t n s f
 | 0,0,_,_,_,_,_=>rfl
 | 0,n+1,s,f,hf,h,_=>by
   rw [itemsG,itemsG,if_pos]
   cases hb:s.2 with
   | true=>rfl
   | false=>unfold leftR at h;rw [if_neg (by rw [hb];decide)] at h;omega
 | m+1,0,s,f,hf,_,h=>by
   rw [itemsG,itemsG,if_pos]
   cases hb:s.2 with
   | true=>rfl
   | false=>unfold leftR at h;rw [if_neg (by rw [hb];decide)] at h;omega
 | m+1,n+1,s,f,hf,h1,h2=>by
   rw [itemsG,itemsG]
   split
   · rfl
   · rename_i hb
     have hb:s.2=false:=by simpa using hb
     have:=leftR_down (f:=f) hf hb
     split
     · rfl
     · exact itemsG_more t m n _ _ (fits_take (by omega) (fits_itemR hf)) (by omega) (by omega)
def itemsR (t:ByteArray) (s:RS) (f:Nat→Bool):RS×(Nat→Bool):=itemsG t (leftR t s) s f
theorem itemsR_bad {t:ByteArray} {s:RS} {f:Nat→Bool} (h:s.2=true):itemsR t s f=(s,f):=by
 unfold itemsR leftR;rw [if_pos h,itemsG]
theorem itemsR_end {t:ByteArray} {s:RS} {f:Nat→Bool} (h:s.2=false) (hc:(takeS t 93 (itemR t s f).1).1=true):itemsR t s f=((takeS t 93 (itemR t s f).1).2,(itemR t s f).2):=by
 unfold itemsR leftR;rw [if_neg (by rw [h];decide),itemsG,if_neg (by rw [h];decide),if_pos hc]
theorem itemsR_on {t:ByteArray} {s:RS} {f:Nat→Bool} (hf:Fits t s) (h:s.2=false) (hc:(takeS t 93 (itemR t s f).1).1=false):
 itemsR t s f=itemsR t (takeS t 93 (itemR t s f).1).2 (itemR t s f).2:=by
 have hd:=leftR_down (f:=f) hf h
 unfold itemsR
 obtain ⟨n,hn⟩:∃n,leftR t s=n+1:=⟨leftR t s-1,by omega⟩
 rw [hn,itemsG,if_neg (by rw [h];decide),if_neg (by rw [hc];decide)]
 exact itemsG_more t _ _ _ _ (fits_take (by omega) (fits_itemR hf)) (by omega) (Nat.le_refl _)
structure PN where
 kind:Int
 ins:Nat→Bool:=fun _=>false
 neg:Bool:=false
 kids:List Nat:=[]
 least:Int:=0
 most:Int:=0
abbrev RP:=RS×List PN
def pushP (p:PN) (st:RP):Nat×RP:=(st.2.length,(st.1,st.2++[p]))
def bndMost (t:ByteArray) (s:RS):Int×(Bool×RS):=
 let m:=tkS t s
 let c:=takeS t 44 m.2
 let d:=takeS t 125 c.2
 if c.1=true∧d.1=true then (-1,d)
 else if c.1=true then
  let n:=tkS t d.2
  let e:=takeS t 125 n.2
  (n.1-48,(e.1,if n.1<48∨57<n.1∨n.1-48<m.1-48 then markS e.2 else e.2))
 else (m.1-48,d)
def bndR (t:ByteArray) (s:RS):(Int×Int)×RS:=
 (((tkS t s).1-48,(bndMost t s).1),if (tkS t s).1<48∨57<(tkS t s).1∨(bndMost t s).2.1=false then markS (bndMost t s).2.2 else (bndMost t s).2.2)
def repR (t:ByteArray) (s:RS):(Int×Int)×RS:=
 if (tkS t s).1=43 then ((1,-1),(tkS t s).2)
 else if (tkS t s).1=63 then ((0,1),(tkS t s).2)
 else if (tkS t s).1=123 then bndR t (tkS t s).2
 else ((0,-1),(tkS t s).2)
def one (c:Int):Nat→Bool:=fun i=>decide ((i:Int)=c)
def plainR (t:ByteArray) (c:Int) (st:RP):Nat×RP:=
 if c=91 then pushP { kind:=1,ins:=(itemsR t (takeS t 94 st.1).2 (fun _=>false)).2,neg:=(takeS t 94 st.1).1 } ((itemsR t (takeS t 94 st.1).2 (fun _=>false)).1,st.2)
 else if c=94 then pushP { kind:=2,ins:=one 94 } st
 else if c=36 then pushP { kind:=3,ins:=one 36 } st
 else if c=46 then pushP { kind:=1,neg:=true } st
 else if c=92 then pushP { kind:=1,ins:=one (tkS t st.1).1 } ((tkS t st.1).2,st.2)
 else pushP { kind:=1,ins:=one c } st
def openR (t:ByteArray) (s:RS):RS:=if stB t s [42,43,63,123]=true then markS s else s
def closeR (t:ByteArray) (r:Nat×RP):Nat×RP:=(r.1,(if (takeS t 41 r.2.1).1=true then (takeS t 41 r.2.1).2 else markS (takeS t 41 r.2.1).2,r.2.2))
def moreR (t:ByteArray) (s:RS):Bool:=!stB t s [124,41]&&decide (s.1<t.size)&&!s.2
def goR (t:ByteArray):Nat→Nat→List Nat→RP→Nat×RP
 | 0,_,_,st=>(0,st)
 | f+1,tag,cur,st=>
   if tag=0 then
    let b:=goR t f 1 [] st
    let m:=takeS t 124 b.2.1
    if m.1=false∨m.2.2=true then pushP { kind:=5,kids:=cur++[b.1] } (m.2,b.2.2)
    else goR t f 0 (cur++[b.1]) (m.2,b.2.2)
   else if tag=1 then
    if moreR t st.1=true then goR t f 1 (cur++[(goR t f 2 [] st).1]) (goR t f 2 [] st).2
    else pushP { kind:=4,kids:=cur } st
   else if tag=2 then goR t f 4 [(goR t f 3 [] st).1] (goR t f 3 [] st).2
   else if tag=3 then
    if (tkS t (openR t st.1)).1=40 then closeR t (goR t f 0 [] ((tkS t (openR t st.1)).2,st.2))
    else plainR t (tkS t (openR t st.1)).1 ((tkS t (openR t st.1)).2,st.2)
   else
    if st.1.2=true∨stB t st.1 [42,43,63,123]=false then (cur.headD 0,st)
    else
     let y:=pushP { kind:=6,kids:=cur,least:=(repR t st.1).1.1,most:=(repR t st.1).1.2 } ((repR t st.1).2,st.2)
     goR t f 4 [y.1] y.2
def EvR (t:ByteArray) (tag:Nat) (cur:List Nat) (st:RP) (r:Nat×RP):Prop:=∃f0,∀f,f0≤f→goR t f tag cur st=r
end Go.Proofs.YtgifhgnccmnbiabGreat
namespace Go.Proofs.YtgifhgnccmnbiabGreat
open Go.RowKit Go.IntWalk
def sfx (t:ByteArray) (p:Nat):ByteArray:=t.extract p t.size
theorem sfx_size {t:ByteArray} {p:Nat}:(sfx t p).size=t.size-p:=by simp [sfx,ByteArray.size_extract]
theorem sfx_get {t:ByteArray} {p k:Nat} (h:p+k<t.size) (h':k<(sfx t p).size):(sfx t p)[k]=t[p+k]:=by
 simp only [sfx]
 rw [ByteArray.getElem_extract]
theorem sfx_sfx {t:ByteArray} {p:Nat} (h:p≤t.size):(sfx t p).extract 1 (sfx t p).size=sfx t (p+1):=by
 rw [sfx_size]
 unfold sfx
 rw [ByteArray.extract_extract]
 congr 1
 omega
structure RR (w:World) (b:Nat) (t:ByteArray) (s:RS):Prop where
 blk:Blk w b #[.string (sfx t s.1),.bool s.2] 125
 fits:Fits t s
 small:t.size≤40
section
variable {w w':World} {b:Nat} {t:ByteArray} {s:RS}
theorem RR.c0 (h:RR w b t s):w.cell? ⟨b,0,none⟩=some (.string (sfx t s.1)):=by rw [Blk.cell h.blk];rfl
theorem RR.c1 (h:RR w b t s):w.cell? ⟨b,1,none⟩=some (.bool s.2):=by rw [Blk.cell h.blk];rfl
theorem RR.f (h:RR w b t s) (j:Nat):w.frozen? ⟨b,j,none⟩=false:=Blk.frozen h.blk j
theorem RR.on (h:RR w b t s) (hp:s.1<t.size):RR (w.setCell ⟨b,0,none⟩ (.string (sfx t (s.1+1)))) b t (s.1+1,s.2):=⟨Blk.set h.blk 0 _,hp,h.small⟩
theorem RR.mark (h:RR w b t s):RR (w.setCell ⟨b,1,none⟩ (.bool true)) b t (s.1,true):=⟨Blk.set h.blk 1 _,h.fits,h.small⟩
theorem RR.kept {S:List Nat} (h:RR w b t s) (k:Kept S w w') (hb:¬b∈S):RR w' b t s:=⟨Blk.kept h.blk k hb,h.fits,h.small⟩
end
theorem rtake_any (b:Nat) (t:ByteArray) (s:RS) (w:World) (h:RR w b t s):
 Calls Tryz.prog 101 #[.pointer (some ⟨b,0,none⟩)] w fun e w'=>e=.returned (.int .u8 (tkS t s).1)∧RR w' b t (tkS t s).2∧Kept [b] w w':=by
 have h0:=h.c0
 have f0:=h.f 0
 have h1:=h.c1
 have f1:=h.f 1
 by_cases hp:s.1<t.size
 · have e:tkS t s=(pk t s.1,(s.1+1,s.2)):=if_pos hp
   have hz:(((sfx t s.1).size:Int)==0)=false:=by rw [sfx_size];simp;omega
   have hl:0<(sfx t s.1).size:=by rw [sfx_size];omega
   have hg:=sfx_get (t:=t) (p:=s.1) (k:=0) (by omega) hl
   have hx:Hid (_=_):=sfx_sfx (t:=t) (p:=s.1) (by omega)
   have hon:=h.on hp
   rw [e]
   clear e
   go_enter Tryz.func101,Tryz.ntmps101
   go_wp2
   rw [hx.out]
   go_ret
   exact ⟨by rw [pk_lt hp];rfl,hon,(Kept.refl _ _).setCell (by simp) _⟩
 · have e:tkS t s=(0,(s.1,true)):=if_neg hp
   have hz:(((sfx t s.1).size:Int)==0)=true:=by rw [sfx_size];simp;omega
   have hon:=h.mark
   rw [e]
   clear e
   go_enter Tryz.func101,Tryz.ntmps101
   go_wp2
   go_ret
   exact ⟨rfl,hon,(Kept.refl _ _).setCell (by simp) _⟩
theorem byte_eq {t:ByteArray} {p:Nat} (h:p<t.size) (c:Int):((t[p].toNat:Int)==c)=(pk t p==c):=by rw [pk_lt h]
theorem rnext_any (b:Nat) (c:Int) (t:ByteArray) (s:RS) (w:World) (h:RR w b t s) (hc:0≤c) (hc':c≤255):
 Calls Tryz.prog 75 #[.pointer (some ⟨b,0,none⟩),.int .u8 c] w fun e w'=>e=.returned (.bool (takeS t c s).1)∧RR w' b t (takeS t c s).2∧Kept [b] w w':=by
 have h0:=h.c0
 have f0:=h.f 0
 by_cases hn:pk t s.1=c
 · have hp:s.1<t.size:=pk_some (by omega)
   have e:takeS t c s=(true,(s.1+1,s.2)):=if_pos hn
   have hl:0<(sfx t s.1).size:=by rw [sfx_size];omega
   have hg:=sfx_get (t:=t) (p:=s.1) (k:=0) (by omega) hl
   have hb:((t[s.1].toNat:Int)==c)=true:=by rw [byte_eq hp,hn];simp
   have hx:Hid (_=_):=sfx_sfx (t:=t) (p:=s.1) (by omega)
   have hon:=h.on hp
   rw [e]
   clear e hn
   go_enter Tryz.func75,Tryz.ntmps75
   go_wp2
   rw [hx.out]
   go_ret
   exact ⟨rfl,hon,(Kept.refl _ _).setCell (by simp) _⟩
 have e:takeS t c s=(false,s):=if_neg hn
 rw [e]
 clear e
 by_cases hp:s.1<t.size
 · have hl:0<(sfx t s.1).size:=by rw [sfx_size];omega
   have hg:=sfx_get (t:=t) (p:=s.1) (k:=0) (by omega) hl
   have hb:((t[s.1].toNat:Int)==c)=false:=by rw [byte_eq hp];simpa using hn
   clear hn
   go_enter Tryz.func75,Tryz.ntmps75
   go_wp2
   go_ret
   exact ⟨rfl,h,Kept.refl _ _⟩
 · have hl:¬ 0<((sfx t s.1).size:Int):=by rw [sfx_size];omega
   clear hn
   go_enter Tryz.func75,Tryz.ntmps75
   go_wp2
   go_ret
   exact ⟨rfl,h,Kept.refl _ _⟩
theorem stB_snoc {t:ByteArray} {s:RS} {o:ByteArray} {k:Nat} (h:k<o.size):stB t s (o.data.toList.take (k+1))=(stB t s (o.data.toList.take k) || (pk t s.1==(o[k].toNat:Int))):=by
 rw [List.take_succ_eq_append_getElem (by simpa using h)]
 unfold stB
 rw [List.any_append]
 simp
 rfl
theorem stB_hit {t:ByteArray} {s:RS} {o:ByteArray} {k:Nat} (h:k<o.size) (hp:(pk t s.1==(o[k].toNat:Int))=true):stB t s o.data.toList=true:=by
 unfold stB
 rw [List.any_eq_true]
 exact ⟨o[k],List.getElem_mem (by simpa using h),hp⟩
theorem stB_none {t:ByteArray} {s:RS} {l:List UInt8} (h:¬s.1<t.size):stB t s l=false:=by
 unfold stB
 rw [List.any_eq_false]
 intro c _
 rw [pk_ge h]
 simp
theorem stands_any (b:Nat) (t:ByteArray) (s:RS) (o:ByteArray) (w:World) (h:RR w b t s) (ho:o.size≤10):
 Calls Tryz.prog 73 #[.pointer (some ⟨b,0,none⟩),.string o] w fun e w'=>e=.returned (.bool (stB t s o.data.toList))∧RR w' b t s∧Kept [b] w w':=by
 go_enter Tryz.func73,Tryz.ntmps73
 go_wp2_with fail
 go_loopw [5] (fun i wr=>∃(k n:Nat),k≤o.size∧i=.int .i64 (k:Int)∧wr=w.drewN n∧stB t s (o.data.toList.take k)=false) (fun i _=>o.size-(intOf i).toNat)
 case atStart=>exact ⟨0,0,Nat.zero_le _,rfl,rfl,rfl⟩
 case round=>
  obtain ⟨k,n,hk,rfl,rfl,hs⟩:=hrel
  have hs:Hid (_=_):=hs
  by_cases hlt:k<o.size
  · have h0:=h.c0
    by_cases hp:s.1<t.size
    · have hl:(0:Int)<((sfx t s.1).size:Int):=by rw [sfx_size];omega
      have hl':0<(sfx t s.1).size:=by omega
      have hg:=sfx_get (t:=t) (p:=s.1) (k:=0) (by omega) hl'
      go_wp2_with fail
      go_quiet (fail)
      go_wp2
      · have hb:((t[s.1].toNat:Int)==(o[k].toNat:Int))=true:=by assumption
        go_ret
        exact ⟨ret_bool (stB_hit hlt (by rw [←byte_eq hp];exact hb)).symm,⟨h.blk,h.fits,h.small⟩,⟨rfl,rfl,rfl,Nat.le_refl _,fun _ _ _=>rfl⟩⟩
      · have hb:((t[s.1].toNat:Int)==(o[k].toNat:Int))=false:=by assumption
        refine ⟨⟨k+1,_,by omega,by go_num,rfl,?_⟩,by simp [intOf];omega⟩
        rw [stB_snoc hlt,hs.out,←byte_eq hp,hb];rfl
    · have hl:(sfx t s.1).size=0:=by rw [sfx_size];omega
      go_wp2_with fail
      go_quiet (fail)
      go_wp2
      refine ⟨⟨k+1,_,by omega,by go_num,rfl,stB_none hp⟩,by simp [intOf];omega⟩
  · have hk2:k=o.size:=by omega
    subst hk2
    have hfin:Hid (stB t s o.data.toList=false):=by
     have:=hs.out
     rwa [List.take_of_length_le (by simp)] at this
    go_wp2
    go_ret
    exact ⟨ret_bool hfin.out.symm,⟨h.blk,h.fits,h.small⟩,⟨rfl,rfl,rfl,Nat.le_refl _,fun _ _ _=>rfl⟩⟩
end Go.Proofs.YtgifhgnccmnbiabGreat
