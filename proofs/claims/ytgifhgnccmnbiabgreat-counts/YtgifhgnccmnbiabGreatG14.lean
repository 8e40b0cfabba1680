/- The machine as plain data, told simply: a set of steps goes along a line. No Go in it. -/
import Derived.Test.YtgifhgnccmnbiabGreatG13
set_option linter.unusedVariables false
set_option linter.unusedSimpArgs false
set_option maxHeartbeats 4000000
set_option maxRecDepth 100000
namespace Go.Proofs.YtgifhgnccmnbiabGreat
open Go.RowKit Go.IntWalk
structure MP where
 whole:Bool:=false
 next:Nat→B64:=fun _=>0#64
 takes:Nat→B64:=fun _=>0#64
 begins:B64:=0#64
 ends:B64:=0#64
 last:B64:=0#64
 beg:B64:=0#64
 en:B64:=0#64
def followQ (m:MP) (s:B64):Nat→B64
 | 0=>0#64
 | q+1=>if s.getLsbD q=true then followQ m s q|||m.next q else followQ m s q
def followP (m:MP) (s:B64):B64:=followQ m s 61
def stillQ (m:MP) (free:B64) (s:B64):Nat→B64
 | 0=>s
 | q+1=>stillQ m free s q|||(followP m (stillQ m free s q)&&&free)
def stillP (m:MP) (s free:B64):B64:=stillQ m free s 60
def startB:B64:=1152921504606846976#64
def foundB:B64:=2305843009213693952#64
theorem startB_nat:((startB.toNat:Nat):Int)=1152921504606846976:=rfl
theorem foundB_nat:((foundB.toNat:Nat):Int)=2305843009213693952:=rfl
def beginP (m:MP):B64:=stillP m startB m.begins
def afterP (m:MP) (s:B64) (c:Nat):B64:=followP m s&&&m.takes c
def behindP (m:MP) (s:B64) (c:Nat):B64:=
 if m.whole=true then afterP m s c
 else ((if s&&&m.last=0#64 then afterP m s c else afterP m s c|||foundB)|||(s&&&foundB))|||startB
def freeP (m:MP) (empty:Bool):B64:=if empty=true then m.ends|||m.begins else m.ends
def acceptsP (m:MP) (s:B64) (empty:Bool):Bool:=!decide (stillP m s (freeP m empty)&&&(m.last|||foundB)=0#64)
def setQ (m:MP) (t:ByteArray):Nat→B64
 | 0=>beginP m
 | q+1=>behindP m (setQ m t q) (if h:q<t.size then t[q].toNat else 0)
def matchesP (m:MP) (t:ByteArray):Bool:=acceptsP m (setQ m t t.size) (t.size==0)
end Go.Proofs.YtgifhgnccmnbiabGreat
namespace Go.Proofs.YtgifhgnccmnbiabGreat
def freshB:B64:=4611686018427387904#64
theorem freshB_nat:((freshB.toNat:Nat):Int)=4611686018427387904:=rfl
def fromP (m:MP) (tk S:B64):B64:=followQ m S 63&&&tk
def intoQ (m:MP) (tk S:B64):Nat→B64
 | 0=>0#64
 | q+1=>if m.next q&&&tk&&&S=0#64 then intoQ m tk S q else intoQ m tk S q|||(1#64 <<< q)
def intoP (m:MP) (tk S:B64):B64:=intoQ m tk S 63
def enoughQ (m:MP) (free X:B64):Nat→B64
 | 0=>X
 | q+1=>enoughQ m free X q|||intoP m free (enoughQ m free X q)
def enoughP (m:MP) (free:B64):B64:=enoughQ m free (m.last|||foundB) 60
def begQ (m:MP):Nat→B64
 | 0=>startB|||freshB
 | q+1=>begQ m q|||fromP m m.begins (begQ m q)
def begP (m:MP):B64:=begQ m 60
def enP (m:MP):B64:=if begP m&&&enoughP m (m.ends|||m.begins)=0#64 then enoughP m m.ends else enoughP m m.ends|||freshB
def anyQ (m:MP) (q:Nat):MP:={ m with next:=fun i=>if i<q∧(m.last.getLsbD i=true∨i=61) then (if i=60 then m.next i|||startB else m.next i)|||foundB else if i=60 then m.next i|||startB else m.next i }
def takeQ (m:MP) (q:Nat):MP:={ m with takes:=fun c=>if c<q then m.takes c|||(startB|||foundB) else m.takes c }
def anyP (m:MP):MP:=takeQ (anyQ m 63) 256
def begM (m:MP):MP:={ m with beg:=begP m,en:=enP m }
def finP (m:MP):MP:=if m.whole=true then begM m else anyP (begM m)
def setN (M:MP) (t:ByteArray):Nat→B64
 | 0=>M.beg
 | q+1=>fromP M (M.takes (if h:q<t.size then t[q].toNat else 0)) (setN M t q)
def matchesN (M:MP) (t:ByteArray):Bool:=!decide (setN M t t.size&&&M.en=0#64)
section
variable {m m':MP} (h:m'.next=m.next)
include h
theorem followQ_next (S:B64):∀q,followQ m' S q=followQ m S q
 | 0=>rfl
 | q+1=>by rw [followQ,followQ,followQ_next S q,h]
theorem fromP_next (tk S:B64):fromP m' tk S=fromP m tk S:=by unfold fromP;rw [followQ_next h]
theorem intoQ_next (tk S:B64):∀q,intoQ m' tk S q=intoQ m tk S q
 | 0=>rfl
 | q+1=>by rw [intoQ,intoQ,intoQ_next tk S q,h]
theorem intoP_next (tk S:B64):intoP m' tk S=intoP m tk S:=intoQ_next h tk S 63
theorem enoughQ_next (free X:B64):∀q,enoughQ m' free X q=enoughQ m free X q
 | 0=>rfl
 | q+1=>by rw [enoughQ,enoughQ,enoughQ_next free X q,intoP_next h]
theorem enoughP_next (hl:m'.last=m.last) (free:B64):enoughP m' free=enoughP m free:=by unfold enoughP;rw [hl,enoughQ_next h]
end
end Go.Proofs.YtgifhgnccmnbiabGreat
namespace Go.Proofs.YtgifhgnccmnbiabGreat
open Go.RowKit Go.IntWalk
def mCell (m:MP) (i:Nat):Value:=
 if i=0 then UV m.beg else if i=1 then UV m.en else if i<65 then UV (m.next (i-2)) else if i<321 then UV (m.takes (i-65))
 else if i=321 then UV m.begins else if i=322 then UV m.ends else UV m.last
def mCells (m:MP):Array Value:=cellsF 324 (mCell m)
@[simp] theorem mCells_size (m:MP):(mCells m).size=324:=cellsF_size _ _
def MIn (w:World) (g:Nat) (m:MP):Prop:=Blk w g (mCells m) 69
def TabAt (w:World) (g o:Nat) (m:MP):Prop:=∀i,i<63→w.cell? ⟨g,o+i,none⟩=some (UV (m.next i))
section
variable {w:World} {g:Nat} {m:MP}
theorem MIn.beg (h:MIn w g m):w.cell? ⟨g,0,none⟩=some (UV m.beg):=by rw [Blk.cell h];exact cellsF_get _ (by decide)
theorem MIn.en (h:MIn w g m):w.cell? ⟨g,1,none⟩=some (UV m.en):=by rw [Blk.cell h];exact cellsF_get _ (by decide)
theorem MIn.begins (h:MIn w g m):w.cell? ⟨g,321,none⟩=some (UV m.begins):=by rw [Blk.cell h];exact cellsF_get _ (by decide)
theorem MIn.ends (h:MIn w g m):w.cell? ⟨g,322,none⟩=some (UV m.ends):=by rw [Blk.cell h];exact cellsF_get _ (by decide)
theorem MIn.last (h:MIn w g m):w.cell? ⟨g,323,none⟩=some (UV m.last):=by rw [Blk.cell h];exact cellsF_get _ (by decide)
theorem MIn.next (h:MIn w g m) {i:Nat} (hi:i<63):w.cell? ⟨g,2+i,none⟩=some (UV (m.next i)):=by
 rw [Blk.cell h]
 unfold mCells
 rw [cellsF_get _ (by omega)]
 unfold mCell
 rw [if_neg (by omega),if_neg (by omega),if_pos (by omega),show 2+i-2=i by omega]
theorem MIn.tab (h:MIn w g m):TabAt w g 2 m:=fun i hi=>h.next hi
theorem MIn.takes (h:MIn w g m) {i:Nat} (hi:i<256):w.cell? ⟨g,65+i,none⟩=some (UV (m.takes i)):=by
 rw [Blk.cell h]
 unfold mCells
 rw [cellsF_get _ (by omega)]
 unfold mCell
 rw [if_neg (by omega),if_neg (by omega),if_neg (by omega),if_pos (by omega),show 65+i-65=i by omega]
end
theorem one_shl {q:Nat} (hq:q<64):((1#64 <<< q:B64).toNat:Int)=2 ^ q:=by
 have h:2 ^ q<2 ^ 64:=Nat.pow_lt_pow_right (by decide) hq
 rw [BitVec.toNat_shiftLeft,Nat.shiftLeft_eq,Nat.mod_eq_of_lt (by simpa using h)]
 simp
theorem Kept.cell {w w':World} (k:Kept [] w w') {g:Nat} (hg:g<w.heap.size) (j:Nat):w'.cell? ⟨g,j,none⟩=w.cell? ⟨g,j,none⟩:=by
 unfold World.cell?
 simp only []
 rw [k.block g hg (by simp)]
abbrev WV (g o:Nat) (tk:B64):Value:=.agg #[.pointer (some ⟨g,o,none⟩),UV tk]
theorem ushr (S:B64) (q:Nat):((S >>> q:B64).toNat:Int) / 2=((S >>> (q+1):B64).toNat:Int):=by
 rw [BitVec.toNat_ushiftRight,BitVec.toNat_ushiftRight,Nat.shiftRight_eq_div_pow,Nat.shiftRight_eq_div_pow,Nat.pow_succ,←Nat.div_div_eq_div_mul]
 rfl
theorem ushr_bit (S:B64) (q:Nat):(S >>> q:B64).getLsbD 0=S.getLsbD q:=by simp
theorem follow_end {m:MP} {S:B64} {q:Nat} (h:S >>> q=0#64):∀k,followQ m S (q+k)=followQ m S q
 | 0=>rfl
 | k+1=>by
   have hb:S.getLsbD (q+k)=false:=by
    have h1:(S >>> q:B64).getLsbD k=S.getLsbD (q+k):=by simp
    rw [←h1,h];simp
   show (if S.getLsbD (q+k)=true then followQ m S (q+k)|||m.next (q+k) else followQ m S (q+k))=_
   rw [if_neg (by rw [hb];decide),follow_end h k]
theorem TabAt.kept {w w':World} {g o:Nat} {m:MP} (h:TabAt w g o m) (k:Kept [] w w') (hg:g<w.heap.size):TabAt w' g o m:=fun i hi=>by
 rw [←h i hi]
 unfold World.cell?
 simp only []
 rw [k.block g hg (by simp)]
theorem TabAt.alloc {w:World} {g o:Nat} {m:MP} (h:TabAt w g o m) (x:Obj):TabAt (w.alloc x) g o m:=
 h.kept ((Kept.refl _ _).alloc x) (by
  have:=h 0 (by omega)
  unfold World.cell? at this
  simp only [] at this
  cases hb:w.heap[g]? with
  | none=>rw [hb] at this;simp at this
  | some y=>exact (Array.getElem?_eq_some_iff.1 hb).1)
theorem from_any (m:MP) (g o:Nat) (tk S:B64) (w:World) (h:TabAt w g o m):
 Calls Tryz.prog 38 #[WV g o tk,.int .u64 (S.toNat:Int)] w fun e w'=>e=.returned (.int .u64 ((fromP m tk S).toNat:Int))∧Kept [] w w':=by
 have hk:Hid (∀o1,Kept [] w (w.alloc o1)):=fun o1=>(Kept.refl [] w).alloc _
 have hT:Hid (∀x,TabAt (w.alloc x) g o m):=fun x=>h.alloc x
 clear h
 go_enter Tryz.func38,Tryz.ntmps38
 go_wp2_with fail
 go_loop [1,5,6] (fun av bv iv=>∃q:Nat,av=.int .u64 ((S >>> q:B64).toNat:Int)∧bv=.int .u64 ((followQ m S q).toNat:Int)∧iv=.int .i64 (q:Int)∧q≤63) (fun _ _ iv=>(63-intOf iv).toNat)
 case atStart=>exact ⟨0,by simp,rfl,rfl,by omega⟩
 case round=>
  obtain ⟨q,rfl,rfl,rfl,hq⟩:=hrel
  by_cases hlt:(q:Int)<63
  · have hqn:q<63:=by omega
    by_cases hz:S >>> q=0#64
    · have e0:((S >>> q:B64).toNat:Int)=0:=(u_zero _).2 hz
      have hF:Hid (fromP m tk S=followQ m S q&&&tk):=by
       show fromP m tk S=_
       unfold fromP
       have:=follow_end (m:=m) hz (63-q)
       rw [show q+(63-q)=63 by omega] at this
       rw [this]
      have ha:=and_u (followQ m S q) tk
      rw [←hF.out] at ha
      clear hz
      obtain ⟨R,hR⟩:∃R,Hid (fromP m tk S=R):=⟨_,rfl⟩
      rw [hR.out] at ha
      clear hF
      generalize followQ m S q=FF at *
      generalize (S >>> q:B64)=A at *
      go_wp2
      go_ret
      exact ⟨by rw [hR.out];rfl,hk.out _⟩
    · have e0:((S >>> q:B64).toNat:Int)≠0:=fun hc=>hz ((u_zero _).1 hc)
      have hsh:=ushr S q
      have hhas:Hid (∀w,Calls Tryz.prog 69 #[.int .u64 ((S >>> q:B64).toNat:Int),.int .i64 0] w fun e w'=>e=.returned (.bool ((S >>> q:B64).getLsbD 0))∧w'=w):=fun w=>has_any (S >>> q) 0 (by omega) w
      rw [ushr_bit] at hhas
      have hc:Hid (∀x,(w.alloc x).cell? ⟨g,o+q,none⟩=some (UV (m.next q))):=fun x=>hT.out x q hqn
      have hor:=or_u (followQ m S q) (m.next q)
      have hon:Hid (S.getLsbD q=true→followQ m S (q+1)=followQ m S q|||m.next q):=fun hb=>by rw [followQ,if_pos hb]
      have hoff:Hid (S.getLsbD q=false→followQ m S (q+1)=followQ m S q):=fun hb=>by rw [followQ,if_neg (by rw [hb];decide)]
      clear hz
      obtain ⟨A2,hA2⟩:∃A2,Hid ((S >>> (q+1):B64)=A2):=⟨_,rfl⟩
      rw [hA2.out] at hsh
      generalize (S >>> q:B64)=A at *
      cases hbit:S.getLsbD q with
      | true=>
        have e:Hid (_=_):=hon.out hbit
        rw [hbit] at hhas
        clear hbit hon hoff
        have hc1:=hc.out (.cells #[.pointer (some ⟨g,o,none⟩),UV tk] 117)
        generalize followQ m S q|||m.next q=Z at hor e
        go_wp2_with (go_at_call 69;refine (hhas.out _).mono ?_;rintro _ _ ⟨rfl,rfl⟩)
        go_round
        case rel=>exact ⟨q+1,by rw [hA2.out,←hsh],by rw [e.out],by go_num,by omega⟩
        case measure=>simp [intOf];omega
      | false=>
        have e:Hid (_=_):=hoff.out hbit
        rw [hbit] at hhas
        clear hbit hon hoff
        go_wp2_with (go_at_call 69;refine (hhas.out _).mono ?_;rintro _ _ ⟨rfl,rfl⟩)
        go_round
        case rel=>exact ⟨q+1,by rw [hA2.out,←hsh],by rw [e.out],by go_num,by omega⟩
        case measure=>simp [intOf];omega
  · have hqe:q=63:=by omega
    subst hqe
    have ha:bits .and .u64 ((followQ m S 63).toNat:Int) (tk.toNat:Int)=((fromP m tk S).toNat:Int):=and_u (followQ m S 63) tk
    obtain ⟨R,hR⟩:∃R,Hid (fromP m tk S=R):=⟨_,rfl⟩
    rw [hR.out] at ha
    go_wp2
    go_ret
    exact ⟨by rw [hR.out];rfl,hk.out _⟩
theorem into_any (m:MP) (g o:Nat) (tk S:B64) (w:World) (h:TabAt w g o m):
 Calls Tryz.prog 98 #[WV g o tk,.int .u64 (S.toNat:Int)] w fun e w'=>e=.returned (.int .u64 ((intoP m tk S).toNat:Int))∧Kept [] w w':=by
 have hT:Hid (TabAt (w.alloc (.cells #[.pointer (some ⟨g,o,none⟩),UV tk] 117)) g o m):=h.alloc _
 have hbl:Hid (Blk (w.alloc (.cells #[.pointer (some ⟨g,o,none⟩),UV tk] 117)) w.heap.size #[.pointer (some ⟨g,o,none⟩),UV tk] 117):=Blk.new w _ _
 have hk:Hid (Kept [] w (w.alloc (.cells #[.pointer (some ⟨g,o,none⟩),UV tk] 117))):=(Kept.refl [] w).alloc _
 clear h
 go_enter Tryz.func98,Tryz.ntmps98
 go_wp2_with fail
 go_loopw [5,6] (fun bv iv wr=>∃q:Nat,bv=.int .u64 ((intoQ m tk S q).toNat:Int)∧iv=.int .i64 (q:Int)∧q≤63∧TabAt wr g o m∧Blk wr w.heap.size #[.pointer (some ⟨g,o,none⟩),UV tk] 117∧Kept [] w wr) (fun _ iv _=>(63-intOf iv).toNat)
 case atStart=>exact ⟨0,rfl,rfl,by omega,hT.out,hbl.out,hk.out⟩
 case round=>
  obtain ⟨q,rfl,rfl,hq,hT1,hb1,hk1⟩:=hrel
  clear hT hbl hk
  by_cases hlt:(q:Int)<63
  · have hqn:q<63:=by omega
    have c1:=hT1 q hqn
    have c2:wr.cell? ⟨w.heap.size,0,none⟩=some (.pointer (some ⟨g,o,none⟩)):=hb1.cell 0
    have c3:wr.cell? ⟨w.heap.size,1,none⟩=some (UV tk):=hb1.cell 1
    have a1:=and_u (m.next q) tk
    have a2:=and_u (m.next q&&&tk) S
    have hD:Hid (∀n,TabAt (wr.drewN n) g o m∧Blk (wr.drewN n) w.heap.size #[.pointer (some ⟨g,o,none⟩),UV tk] 117∧Kept [] w (wr.drewN n)):=fun n=>⟨hT1,hb1,hk1.drewN n⟩
    have hon:Hid (m.next q&&&tk&&&S≠0#64→intoQ m tk S (q+1)=intoQ m tk S q|||(1#64 <<< q)):=fun hb=>by rw [intoQ,if_neg hb]
    have hoff:Hid (m.next q&&&tk&&&S=0#64→intoQ m tk S (q+1)=intoQ m tk S q):=fun hb=>by rw [intoQ,if_pos hb]
    have hor:=or_u (intoQ m tk S q) (1#64 <<< q)
    have hw1:IntKind.wrap .u64 ((2:Int) ^ q)=((1#64 <<< q:B64).toNat:Int):=by rw [←one_shl (by omega)];exact wrap_u _ (BitVec.isLt _)
    have hw2:IntKind.wrap .u64 (1*(2:Int) ^ q)=((1#64 <<< q:B64).toNat:Int):=by rw [Int.one_mul];exact hw1
    clear hT1 hb1 hk1
    generalize m.next q&&&tk=Y at *
    generalize Y&&&S=X at *
    by_cases hz:X=0#64
    · have e:Hid (_=_):=hoff.out hz
      have eX:(X.toNat:Int)=0:=(u_zero X).2 hz
      clear hz hon hoff hor hw1 hw2
      go_wp2
      go_quiet (fail)
      go_wp2
      refine ⟨⟨q+1,by rw [e.out],by go_num,by omega,hD.out _⟩,?_⟩
      simp only [intOf];omega
    · have e:Hid (_=_):=hon.out hz
      have eX:(X.toNat:Int)≠0:=fun hc=>hz ((u_zero X).1 hc)
      clear hz hon hoff
      generalize (1#64 <<< q:B64)=Z at *
      generalize intoQ m tk S q|||Z=V at *
      go_wp2
      go_quiet (fail)
      go_wp2
      refine ⟨⟨q+1,by rw [e.out],by go_num,by omega,hD.out _⟩,?_⟩
      simp only [intOf];omega
  · have hqe:q=63:=by omega
    subst hqe
    have hkH:Hid (Kept _ _ _):=hk1
    have e:Hid (intoP m tk S=intoQ m tk S 63):=rfl
    clear hT1 hb1 hk1
    go_wp2
    go_ret
    exact ⟨by rw [e.out];rfl,hkH.out⟩
def holdsP (its:List (Int×Int)) (c:Int):Bool:=its.any fun x=>decide (x.1≤c)&&decide (c≤x.2)
def otherC (c:Nat):Nat:=if 65≤c∧c≤90 then c+32 else if 97≤c∧c≤122 then c-32 else c
theorem itemCells_get:∀(l:List (Int×Int)) (i:Nat) (x:Int×Int),l[i]?=some x→(itemCells l)[i*2]?=some (.int .i64 x.1)∧(itemCells l)[i*2+1]?=some (.int .i64 x.2)
 | [],i,x,h=>by simp at h
 | y :: l,0,x,h=>by simp at h;subst h;exact ⟨rfl,rfl⟩
 | y :: l,i+1,x,h=>by
   simp at h
   have:=itemCells_get l i x h
   have e:(i+1)*2=i*2+1+1:=by omega
   rw [e]
   exact this
theorem ItemsOk.keep {w w':World} {B:Nat} {x:IV} {its:List (Int×Int)} {S:List Nat} (h:ItemsOk w B x its) (k:Kept S w w') (hs:∀g,g∈S→(ivV x).ownBlock≠some g):ItemsOk w' B x its:=by
 refine ⟨h.1,?_⟩
 rcases h.2 with h1 | ⟨g,cap,cur,h1,h2,h3,h4⟩
 · exact Or.inl h1
 · have hlt:g<w.heap.size:=(Array.getElem?_eq_some_iff.1 h3).1
   refine Or.inr ⟨g,cap,cur,h1,h2,(k.block g hlt (fun hc=>?_)).trans h3,h4⟩
   have:=hs g hc
   rw [h1] at this
   exact this rfl
theorem ItemsOk.same {w w':World} {B:Nat} {x:IV} {its:List (Int×Int)} (h:ItemsOk w B x its) (k:w'.heap=w.heap):ItemsOk w' B x its:=by
 refine ⟨h.1,?_⟩
 rcases h.2 with h1 | ⟨g,cap,cur,h1,h2,h3,h4⟩
 · exact Or.inl h1
 · exact Or.inr ⟨g,cap,cur,h1,h2,by rw [k];exact h3,h4⟩
theorem holds_any (its:List (Int×Int)) (B:Nat) (x:IV) (c:Int) (w:World) (h:ItemsOk w B x its) (hl:its.length≤1000) (hc0:0≤c) (hc:c≤255):
 Calls Tryz.prog 96 #[.slice x.1 x.2.1 x.2.2,.int .i64 c] w fun e w'=>e=.returned (.bool (holdsP its c))∧w'=w:=by
 obtain ⟨a,cap,hx⟩:∃a cap,ivV x=.slice a its.length cap:=by
  rcases h.2 with ⟨h1,h2⟩ | ⟨g,cap,_,h1,_⟩
  · exact ⟨none,0,by rw [h1,h2]⟩
  · exact ⟨_,cap,h1⟩
 have hx':Value.slice x.1 x.2.1 x.2.2=.slice a its.length cap:=hx
 rw [hx']
 clear hx'
 go_enter Tryz.func96,Tryz.ntmps96
 go_wp2_with fail
 go_loop [5] (fun iv=>∃q:Nat,iv=.int .i64 (q:Int)∧q≤its.length∧holdsP (its.take q) c=false) (fun iv=>((its.length:Int)-intOf iv).toNat)
 case atStart=>exact ⟨0,rfl,by omega,rfl⟩
 case round=>
  obtain ⟨q,rfl,hq,hno⟩:=hrel
  by_cases hlt:(q:Int)<(its.length:Int)
  · have hqn:q<its.length:=by omega
    obtain ⟨y,hy⟩:∃y,its[q]?=some y:=⟨_,List.getElem?_eq_getElem hqn⟩
    obtain ⟨g,cap',hv⟩:=own_form h (by omega)
    rw [hx] at hv
    simp only [Value.slice.injEq] at hv
    obtain ⟨rfl,_,rfl⟩:=hv
    obtain ⟨g1,g2⟩:=itemCells_get its q y hy
    have hown:w.ownsRow B 186 2 (.slice (some ⟨g,0,none⟩) its.length cap) its.length (itemCells its):=by have:=h;unfold ItemsOk at this;rwa [hx] at this
    have c1:=hown.cells (g:=g) rfl _ _ g1
    have c2:=hown.cells (g:=g) rfl _ _ g2
    rw [show (⟨g,0,none⟩:Addr).add (q*2)=⟨g,q*2,none⟩ by simp [Addr.add];omega] at c1
    rw [show (⟨g,0,none⟩:Addr).add (q*2+1)=⟨g,q*2+1,none⟩ by simp [Addr.add]] at c2
    have hsnoc:its.take (q+1)=its.take q++[y]:=by rw [List.take_add_one,hy];rfl
    have hnext:Hid (¬(y.1≤c∧c≤y.2)→holdsP (its.take (q+1)) c=false):=fun hn=>by
     unfold holdsP at *
     rw [hsnoc,List.any_append,hno]
     simpa using fun h1=>by have:=fun h2=>hn ⟨h1,h2⟩;omega
    have hyes:Hid (y.1≤c→c≤y.2→holdsP its c=true):=fun h1 h2=>by
     unfold holdsP
     exact List.any_eq_true.2 ⟨y,List.mem_of_getElem? hy,by simp [h1,h2]⟩
    clear hx hown g1 g2 hno hsnoc hy h
    generalize hlo:y.1=lo at *
    generalize hhi:y.2=hi at *
    clear hlo hhi
    by_cases h1:lo≤c
    · by_cases h2:c≤hi
      · have hyH:Hid (holdsP its c=true):=hyes.out h1 h2
        clear hyes hnext
        go_wp2
        go_ret
        exact ⟨by rw [hyH.out];rfl,rfl⟩
      · have hnH:Hid _:=hnext.out (fun hc=>h2 hc.2)
        clear hyes hnext
        have h2:hi<c:=by omega
        go_wp2
        refine ⟨⟨q+1,by go_num,by omega,hnH.out⟩,?_⟩
        simp only [intOf];omega
    · have hnH:Hid _:=hnext.out (fun hc=>h1 hc.1)
      clear hyes hnext
      have h1:c<lo:=by omega
      go_wp2
      refine ⟨⟨q+1,by go_num,by omega,hnH.out⟩,?_⟩
      simp only [intOf];omega
  · have hqe:q=its.length:=by omega
    subst hqe
    rw [List.take_length] at hno
    have hnH:Hid (_=_):=hno
    clear hno hx h
    go_wp2
    go_ret
    exact ⟨by rw [hnH.out];rfl,rfl⟩
theorem otherCase_any (c:Nat) (hc:c<256) (w:World):
 Calls Tryz.prog 97 #[.int .i64 (c:Int)] w fun e w'=>e=.returned (.int .i64 (otherC c:Int))∧w'=w:=by
 by_cases h1:65≤c∧c≤90
 · obtain ⟨a1,a2⟩:=h1
   have e:Hid (((otherC c:Nat):Int)=(c:Int)-65+97):=by show ((otherC c:Nat):Int)=_;unfold otherC;rw [if_pos ⟨a1,a2⟩];omega
   go_enter Tryz.func97,Tryz.ntmps97
   go_wp2
   go_ret
   exact ⟨ret_int (by have:=e.out;omega),rfl⟩
 · by_cases h2:97≤c∧c≤122
   · obtain ⟨a1,a2⟩:=h2
     clear h1
     have e:Hid (((otherC c:Nat):Int)=(c:Int)-97+65):=by show ((otherC c:Nat):Int)=_;unfold otherC;rw [if_neg (by omega),if_pos ⟨a1,a2⟩];omega
     go_enter Tryz.func97,Tryz.ntmps97
     go_wp2
     go_ret
     exact ⟨ret_int (by have:=e.out;omega),rfl⟩
   · have e:Hid (otherC c=c):=by show otherC c=c;unfold otherC;rw [if_neg h1,if_neg h2]
     have cs:c<65∨(90<c∧c<97)∨122<c:=by omega
     clear h1 h2
     rcases cs with h1 | ⟨h1,h2⟩ | h1 <;>
     · go_enter Tryz.func97,Tryz.ntmps97
       go_wp2
       go_ret
       exact ⟨ret_int (by rw [e.out]),rfl⟩
theorem m_set_takes (m m':MP) (i:Nat) (s:B64) (hi:i<256) (h0:m'.beg=m.beg∧m'.en=m.en) (h1:m'.next=m.next) (h2:∀j,j<256→m'.takes j=if j=i then s else m.takes j) (h3:m'.begins=m.begins) (h4:m'.ends=m.ends) (h5:m'.last=m.last):
 (mCells m).setIfInBounds (65+i) (UV s)=mCells m':=by
 refine cellsF_set _ _ _ _ fun j hj=>?_
 unfold mCell
 rw [h0.1,h0.2,h1,h3,h4,h5]
 by_cases h:j=65+i
 · subst h
   rw [if_neg (by omega),if_neg (by omega),if_neg (by omega),if_pos (by omega),if_pos rfl,h2 _ (by omega),if_pos (by omega)]
 · rw [if_neg h]
   repeat' split
   all_goals first | rfl | (rw [h2 _ (by omega),if_neg (by omega)])
theorem m_set_next (m m':MP) (i:Nat) (s:B64) (hi:i<63) (h0:m'.beg=m.beg∧m'.en=m.en) (h1:m'.takes=m.takes) (h2:∀j,j<63→m'.next j=if j=i then s else m.next j) (h3:m'.begins=m.begins) (h4:m'.ends=m.ends) (h5:m'.last=m.last):
 (mCells m).setIfInBounds (2+i) (UV s)=mCells m':=by
 refine cellsF_set _ _ _ _ fun j hj=>?_
 unfold mCell
 rw [h0.1,h0.2,h1,h3,h4,h5]
 by_cases h:j=2+i
 · subst h
   rw [if_neg (by omega),if_neg (by omega),if_pos (by omega),if_pos rfl,h2 _ (by omega),if_pos (by omega)]
 · rw [if_neg h]
   repeat' split
   all_goals first | rfl | (rw [h2 _ (by omega),if_neg (by omega)])
theorem m_set_begins (m:MP) (s:B64):(mCells m).setIfInBounds 321 (UV s)=mCells { m with begins:=s }:=cellsF_set _ _ _ _ fun j hj=>by
 by_cases h:j=321
 · subst h;rfl
 · unfold mCell;simp only [if_neg h]
theorem m_set_ends (m:MP) (s:B64):(mCells m).setIfInBounds 322 (UV s)=mCells { m with ends:=s }:=cellsF_set _ _ _ _ fun j hj=>by
 by_cases h:j=322
 · subst h;rfl
 · unfold mCell;simp only [if_neg h]
theorem m_set_last (m:MP) (s:B64):(mCells m).setIfInBounds 323 (UV s)=mCells { m with last:=s }:=cellsF_set _ _ _ _ fun j hj=>by
 by_cases h:j=323
 · subst h;rfl
 · unfold mCell;repeat' split
   all_goals first | rfl | omega
def takesP (n:AN) (fold:Bool) (c:Nat):Bool:=(holdsP n.its (c:Int) || (fold&&holdsP n.its (otherC c:Int))) != n.neg
def learnQ (m:MP) (step:B64) (n:AN) (fold:Bool) (q:Nat):MP:={ m with takes:=fun c=>if c<q∧takesP n fold c=true then m.takes c|||step else m.takes c }
def learnP (m:MP) (step:B64) (n:AN) (fold:Bool):MP:=
 if n.kind=2 then { m with begins:=m.begins|||step } else if n.kind=3 then { m with ends:=m.ends|||step } else if n.kind=1 then learnQ m step n fold 256 else m
theorem learnQ_off {m:MP} {step:B64} {n:AN} {fold:Bool} {q:Nat} (h:takesP n fold q=false):learnQ m step n fold (q+1)=learnQ m step n fold q:=by
 unfold learnQ
 congr 1
 funext c
 by_cases hc:c=q
 · subst hc;rw [if_neg (by simp [h]),if_neg (by simp [h])]
 · by_cases h1:c<q∧takesP n fold c=true
   · rw [if_pos ⟨by omega,h1.2⟩,if_pos h1]
   · rw [if_neg (fun hc=>h1 ⟨by omega,hc.2⟩),if_neg h1]
theorem learnQ_on {m:MP} {step:B64} {n:AN} {fold:Bool} {q:Nat} (hq:q<256) (h:takesP n fold q=true):(mCells (learnQ m step n fold q)).setIfInBounds (65+q) (UV (m.takes q|||step))=mCells (learnQ m step n fold (q+1)):=by
 refine m_set_takes _ _ q _ hq ⟨rfl,rfl⟩ rfl (fun j _=>?_) rfl rfl rfl
 simp only [learnQ]
 by_cases hs:j=q
 · subst hs;rw [if_pos ⟨by omega,h⟩,if_pos rfl]
 · rw [if_neg hs]
   by_cases h1:j<q∧takesP n fold j=true
   · rw [if_pos ⟨by omega,h1.2⟩,if_pos h1]
   · rw [if_neg (fun hc=>h1 ⟨by omega,hc.2⟩),if_neg h1]
theorem MIn.frozen {w:World} {g:Nat} {m:MP} (h:MIn w g m) (j:Nat):w.frozen? ⟨g,j,none⟩=false:=Blk.frozen h j
structure LbIn (w0 w:World) (g:Nat) (m:MP) (n:AN) (x:IV):Prop where
 mi:MIn w g m
 nb:Blk w w0.heap.size #[.int .i64 n.kind,.slice x.1 x.2.1 x.2.2,.bool n.neg,.int .i64 n.left,.int .i64 n.right,.int .i64 n.least,.int .i64 n.most,.int .i64 n.size] 114
 k:Kept [g] w0 w
theorem LbIn.drewN {w0 w:World} {g:Nat} {m:MP} {n:AN} {x:IV} (h:LbIn w0 w g m n x) (q:Nat):LbIn w0 (w.drewN q) g m n x:=⟨h.mi,h.nb,h.k.drewN q⟩
theorem LbIn.drew {w0 w:World} {g:Nat} {m:MP} {n:AN} {x:IV} (h:LbIn w0 w g m n x):LbIn w0 w.drew g m n x:=⟨h.mi,h.nb,h.k.drew⟩
theorem LbIn.set {w0 w:World} {g:Nat} {m m':MP} {n:AN} {x:IV} (h:LbIn w0 w g m n x) (hg:g<w0.heap.size) (i:Nat) (u:Value) (he:(mCells m).setIfInBounds i u=mCells m'):LbIn w0 (w.setCell ⟨g,i,none⟩ u) g m' n x:=by
 refine ⟨?_,h.nb.other _ _ (by omega),h.k.setCell (Or.inl (by simp)) _⟩
 have:=Blk.set h.mi i u
 rw [he] at this
 exact this
theorem learnBytes_any (m:MP) (g:Nat) (step:B64) (n:AN) (x:IV) (fold:Bool) (B:Nat) (w:World) (h:MIn w g m) (hx:ItemsOk w B x n.its) (hl:n.its.length≤1000) (hne:(ivV x).ownBlock≠some g):
 Calls Tryz.prog 67 #[.pointer (some ⟨g,0,none⟩),.int .u64 (step.toNat:Int),.agg #[.int .i64 n.kind,.slice x.1 x.2.1 x.2.2,.bool n.neg,.int .i64 n.left,.int .i64 n.right,.int .i64 n.least,.int .i64 n.most,.int .i64 n.size],.bool fold] w
  fun e w'=>e=.returned (.tuple #[])∧MIn w' g (learnQ m step n fold 256)∧Kept [g] w w':=by
 have hg:g<w.heap.size:=Blk.lt h
 have hst:LbIn w (w.alloc (.cells #[.int .i64 n.kind,.slice x.1 x.2.1 x.2.2,.bool n.neg,.int .i64 n.left,.int .i64 n.right,.int .i64 n.least,.int .i64 n.most,.int .i64 n.size] 114)) g (learnQ m step n fold 0) n x:=by
  refine ⟨?_,Blk.new _ _ _,(Kept.refl _ _).alloc _⟩
  have e:learnQ m step n fold 0=m:=by unfold learnQ;congr 1
  rw [e]
  exact Blk.alloc h _
 have hstH:Hid (LbIn _ _ _ _ _ _):=hst
 clear hst
 go_enter Tryz.func67,Tryz.ntmps67
 go_wp2_with fail
 go_loopw [8] (fun iv wr=>∃q:Nat,iv=.int .i64 (q:Int)∧q≤256∧LbIn w wr g (learnQ m step n fold q) n x) (fun iv _=>(256-intOf iv).toNat)
 case atStart=>exact ⟨0,rfl,by omega,hstH.out⟩
 case round=>
  obtain ⟨q,rfl,hq,hI⟩:=hrel
  clear hstH
  by_cases hlt:(q:Int)<256
  · have hqn:q<256:=by omega
    have hoc:otherC q≤255:=by
     unfold otherC;repeat' split
     all_goals omega
    have hx1:ItemsOk wr B x n.its:=hx.keep hI.k (by simpa using hne)
    have hh1:Hid (∀w',w'.heap=wr.heap→Calls _ _ _ w' _):=fun w' e=>holds_any n.its B x (q:Int) w' (hx1.same e) hl (by omega) (by omega)
    have hh2:Hid (∀w',w'.heap=wr.heap→Calls _ _ _ w' _):=fun w' e=>holds_any n.its B x (otherC q:Int) w' (hx1.same e) hl (by omega) (by omega)
    have ho:Hid (∀w',Calls _ _ _ w' _):=fun w'=>otherCase_any q hqn w'
    have c1:wr.cell? ⟨w.heap.size,1,none⟩=some (.slice x.1 x.2.1 x.2.2):=by rw [hI.nb.cell];rfl
    have c2:wr.cell? ⟨w.heap.size,2,none⟩=some (.bool n.neg):=by rw [hI.nb.cell];rfl
    have c3:=hI.mi.takes hqn
    have c4:=hI.mi.frozen (65+q)
    have et:(learnQ m step n fold q).takes q=m.takes q:=by simp [learnQ]
    rw [et] at c3
    have hor:=or_u (m.takes q) step
    have hon:Hid (takesP n fold q=true→LbIn w (wr.drew.setCell ⟨g,65+q,none⟩ (UV (m.takes q|||step))) g (learnQ m step n fold (q+1)) n x∧∀k,LbIn w ((wr.drewN k).drew.setCell ⟨g,65+q,none⟩ (UV (m.takes q|||step))) g (learnQ m step n fold (q+1)) n x):=fun hb=>
     ⟨hI.drew.set hg _ _ (learnQ_on hqn hb),fun k=>(hI.drewN k).drew.set hg _ _ (learnQ_on hqn hb)⟩
    have hoff:Hid (takesP n fold q=false→LbIn w wr g (learnQ m step n fold (q+1)) n x∧∀k,LbIn w (wr.drewN k) g (learnQ m step n fold (q+1)) n x):=fun hb=>by
     rw [learnQ_off hb];exact ⟨hI,fun k=>hI.drewN k⟩
    have etk:takesP n fold q=((holdsP n.its (q:Int) || (fold&&holdsP n.its (otherC q:Int))) != n.neg):=rfl
    clear et hI hx1 hx h hlt
    have hlt:(q:Int)<256:=by omega
    generalize m.takes q|||step=Z at *
    generalize takesP n fold q=TT at *
    generalize holdsP n.its (q:Int)=b1 at *
    generalize holdsP n.its (otherC q:Int)=b2 at *
    generalize hneg:n.neg=ng at *
    clear hneg
    cases b1 <;> cases ng <;> cases fold <;> cases b2 <;> simp only [Bool.or_true,Bool.or_false,Bool.true_or,Bool.false_or,Bool.true_and,Bool.false_and,Bool.and_true,Bool.and_false,bne_self_eq_false,Bool.true_bne,Bool.false_bne,Bool.bne_true,Bool.bne_false,Bool.not_true,Bool.not_false] at etk <;> subst etk
    · have H:Hid (_∧_):=hoff.out rfl
      clear hon hoff
      go_wp2_with (go_at_call 96;refine (hh1.out _ rfl).mono ?_;rintro _ _ ⟨rfl,rfl⟩)
      refine ⟨⟨q+1,by go_num,by omega,H.out.1⟩,?_⟩
      simp only [intOf];omega
    · have H:Hid (_∧_):=hoff.out rfl
      clear hon hoff
      go_wp2_with (go_at_call 96;refine (hh1.out _ rfl).mono ?_;rintro _ _ ⟨rfl,rfl⟩)
      refine ⟨⟨q+1,by go_num,by omega,H.out.1⟩,?_⟩
      simp only [intOf];omega
    · have H:Hid (_∧_):=hoff.out rfl
      clear hon hoff
      go_wp2_with (go_at_call 96;refine (hh1.out _ rfl).mono ?_;rintro _ _ ⟨rfl,rfl⟩)
      go_quiet (first | (go_at_call 97;exact Calls.quiet_of_same (ho.out _)) | (go_at_call 96;exact Calls.quiet_of_same (hh2.out _ rfl)))
      go_wp2
      refine ⟨⟨q+1,by go_num,by omega,H.out.2 _⟩,?_⟩
      simp only [intOf];omega
    · have H:Hid (_∧_):=hon.out rfl
      clear hon hoff
      go_wp2_with (go_at_call 96;refine (hh1.out _ rfl).mono ?_;rintro _ _ ⟨rfl,rfl⟩)
      go_quiet (first | (go_at_call 97;exact Calls.quiet_of_same (ho.out _)) | (go_at_call 96;exact Calls.quiet_of_same (hh2.out _ rfl)))
      go_wp2
      go_region
      go_wp2
      refine ⟨⟨q+1,by go_num,by omega,H.out.2 _⟩,?_⟩
      simp only [intOf];omega
    · have H:Hid (_∧_):=hon.out rfl
      clear hon hoff
      go_wp2_with (go_at_call 96;refine (hh1.out _ rfl).mono ?_;rintro _ _ ⟨rfl,rfl⟩)
      go_region
      go_wp2
      refine ⟨⟨q+1,by go_num,by omega,H.out.1⟩,?_⟩
      simp only [intOf];omega
    · have H:Hid (_∧_):=hon.out rfl
      clear hon hoff
      go_wp2_with (go_at_call 96;refine (hh1.out _ rfl).mono ?_;rintro _ _ ⟨rfl,rfl⟩)
      go_region
      go_wp2
      refine ⟨⟨q+1,by go_num,by omega,H.out.1⟩,?_⟩
      simp only [intOf];omega
    · have H:Hid (_∧_):=hon.out rfl
      clear hon hoff
      go_wp2_with (go_at_call 96;refine (hh1.out _ rfl).mono ?_;rintro _ _ ⟨rfl,rfl⟩)
      go_quiet (first | (go_at_call 97;exact Calls.quiet_of_same (ho.out _)) | (go_at_call 96;exact Calls.quiet_of_same (hh2.out _ rfl)))
      go_wp2
      go_region
      go_wp2
      refine ⟨⟨q+1,by go_num,by omega,H.out.2 _⟩,?_⟩
      simp only [intOf];omega
    · have H:Hid (_∧_):=hoff.out rfl
      clear hon hoff
      go_wp2_with (go_at_call 96;refine (hh1.out _ rfl).mono ?_;rintro _ _ ⟨rfl,rfl⟩)
      go_quiet (first | (go_at_call 97;exact Calls.quiet_of_same (ho.out _)) | (go_at_call 96;exact Calls.quiet_of_same (hh2.out _ rfl)))
      go_wp2
      refine ⟨⟨q+1,by go_num,by omega,H.out.2 _⟩,?_⟩
      simp only [intOf];omega
    · have H:Hid (_∧_):=hon.out rfl
      clear hon hoff
      go_wp2_with (go_at_call 96;refine (hh1.out _ rfl).mono ?_;rintro _ _ ⟨rfl,rfl⟩)
      go_region
      go_wp2
      refine ⟨⟨q+1,by go_num,by omega,H.out.1⟩,?_⟩
      simp only [intOf];omega
    · have H:Hid (_∧_):=hon.out rfl
      clear hon hoff
      go_wp2_with (go_at_call 96;refine (hh1.out _ rfl).mono ?_;rintro _ _ ⟨rfl,rfl⟩)
      go_region
      go_wp2
      refine ⟨⟨q+1,by go_num,by omega,H.out.1⟩,?_⟩
      simp only [intOf];omega
    · have H:Hid (_∧_):=hon.out rfl
      clear hon hoff
      go_wp2_with (go_at_call 96;refine (hh1.out _ rfl).mono ?_;rintro _ _ ⟨rfl,rfl⟩)
      go_region
      go_wp2
      refine ⟨⟨q+1,by go_num,by omega,H.out.1⟩,?_⟩
      simp only [intOf];omega
    · have H:Hid (_∧_):=hon.out rfl
      clear hon hoff
      go_wp2_with (go_at_call 96;refine (hh1.out _ rfl).mono ?_;rintro _ _ ⟨rfl,rfl⟩)
      go_region
      go_wp2
      refine ⟨⟨q+1,by go_num,by omega,H.out.1⟩,?_⟩
      simp only [intOf];omega
    · have H:Hid (_∧_):=hoff.out rfl
      clear hon hoff
      go_wp2_with (go_at_call 96;refine (hh1.out _ rfl).mono ?_;rintro _ _ ⟨rfl,rfl⟩)
      refine ⟨⟨q+1,by go_num,by omega,H.out.1⟩,?_⟩
      simp only [intOf];omega
    · have H:Hid (_∧_):=hoff.out rfl
      clear hon hoff
      go_wp2_with (go_at_call 96;refine (hh1.out _ rfl).mono ?_;rintro _ _ ⟨rfl,rfl⟩)
      refine ⟨⟨q+1,by go_num,by omega,H.out.1⟩,?_⟩
      simp only [intOf];omega
    · have H:Hid (_∧_):=hoff.out rfl
      clear hon hoff
      go_wp2_with (go_at_call 96;refine (hh1.out _ rfl).mono ?_;rintro _ _ ⟨rfl,rfl⟩)
      refine ⟨⟨q+1,by go_num,by omega,H.out.1⟩,?_⟩
      simp only [intOf];omega
    · have H:Hid (_∧_):=hoff.out rfl
      clear hon hoff
      go_wp2_with (go_at_call 96;refine (hh1.out _ rfl).mono ?_;rintro _ _ ⟨rfl,rfl⟩)
      refine ⟨⟨q+1,by go_num,by omega,H.out.1⟩,?_⟩
      simp only [intOf];omega
  · have hqe:q=256:=by omega
    subst hqe
    have h1:=hI.mi
    have h2:=hI.k
    clear hI h hx
    go_wp2
    go_end0
    exact ⟨rfl,h1,h2⟩
end Go.Proofs.YtgifhgnccmnbiabGreat
