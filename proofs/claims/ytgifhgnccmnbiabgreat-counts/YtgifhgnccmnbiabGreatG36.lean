/- Going along a text: the place, and how many selected lines have ended. No Go in it. -/
import Derived.Test.YtgifhgnccmnbiabGreatG34
import Derived.Test.YtgifhgnccmnbiabGreatG35
import Derived.Test.YtgifhgnccmnbiabGreatG33
set_option linter.unusedVariables false
set_option linter.unusedSimpArgs false
set_option maxHeartbeats 4000000
set_option maxRecDepth 100000
namespace Go.Proofs.YtgifhgnccmnbiabGreat
structure PLC where
 pos:Nat
 beg:Nat
 lines:Nat
 set:B64
def restL (Y:List Nat):List Nat:=(crA [] Y).2
def compL (Y:List Nat):List (List Nat):=(crA [] Y).1
def plcOf (M:MP) (Y:List Nat):PLC:=⟨Y.length,Y.length-(restL Y).length,(compL Y).length,runM M (restL Y) M.beg⟩
def behindC (h:PLC) (p:PCE):PLC:=
 if p.nl=0 then ⟨h.pos+p.len,h.beg,h.lines+p.nl,fromP (tabM p.nx) p.tk h.set⟩ else ⟨h.pos+p.len,h.pos+p.len-p.tail,h.lines+p.nl,p.la⟩
theorem restL_le (Y:List Nat):(restL Y).length≤Y.length:=by have:=crA_rest_le Y [];simpa [restL] using this
theorem restL_app (Y x:List Nat):restL (Y++x)=(crA (restL Y) x).2:=by unfold restL;rw [crA_app]
theorem compL_app (Y x:List Nat):compL (Y++x)=compL Y++(crA (restL Y) x).1:=by unfold compL restL;rw [crA_app]
theorem plc_ok {M:MP} {inv:Bool} {x:List Nat} {p:PCE} (h:PieceOk M inv x p) (Y:List Nat):behindC (plcOf M Y) p=plcOf M (Y++x):=by
 have hs:=h.set (restL Y)
 have hr:=h.rest (restL Y)
 have hc:=h.count (restL Y)
 have hle:=restL_le Y
 unfold setP at hs
 unfold behindC plcOf
 simp only []
 rw [restL_app,compL_app,List.length_append,List.length_append,hc,hr,←h.len]
 by_cases hn:p.nl=0
 · rw [if_pos hn] at hs ⊢
   rw [if_pos hn,hs]
   congr 1
   omega
 · rw [if_neg hn] at hs ⊢
   rw [if_neg hn,hs]
theorem ends_ok {M:MP} {inv:Bool} {x:List Nat} {p:PCE} (h:PieceOk M inv x p) (Y:List Nat):cnt M inv (compL Y)+endsP inv p (plcOf M Y).set=cnt M inv (compL (Y++x)):=by
 have he:=h.ends (restL Y)
 rw [compL_app,cnt_app,←he]
 rfl
theorem inLine_ok (M:MP) (Y:List Nat):(plcOf M Y).beg<(plcOf M Y).pos↔restL Y≠[]:=by
 have hle:=restL_le Y
 unfold plcOf
 simp only []
 have:=List.length_pos_iff (l:=restL Y)
 constructor
 · intro h;rw [←this];omega
 · intro h
   have:=this.2 h
   omega
theorem linesL_cr (X:List Nat):linesL X=compL X++if restL X=[] then [] else [restL X]:=linesA_cr X []
def capI (mx:Int) (n:Nat):Int:=if 0<mx∧mx<(n:Int) then mx else (n:Int)
theorem comp_le (Y:List Nat):(compL Y).length≤Y.length:=by unfold compL;rw [crA_count];exact nls_le Y
end Go.Proofs.YtgifhgnccmnbiabGreat
namespace Go.Proofs.YtgifhgnccmnbiabGreat
open Go.RowKit Go.IntWalk
abbrev PcF:=Nat→PCE×Option Addr
def rowP (ps:PcF) (k:Nat):Value:=((pcCells (ps (k / 8)).1 (ps (k / 8)).2)[k % 8]?).getD undef
def rowPs (ps:PcF) (n:Nat):Array Value:=cellsF (8*n) (rowP ps)
theorem rowPs_get (ps:PcF) {n i j:Nat} (hi:i<n) (hj:j<8):(rowPs ps n)[i*8+j]?=(pcCells (ps i).1 (ps i).2)[j]?:=by
 unfold rowPs
 rw [cellsF_get _ (by omega)]
 unfold rowP
 rw [show (i*8+j) / 8=i by omega,show (i*8+j) % 8=j by omega]
 have:j<(pcCells (ps i).1 (ps i).2).size:=hj
 rw [Array.getElem?_eq_getElem this];rfl
def updP (ps:PcF) (i:Nat) (x:PCE×Option Addr):PcF:=fun j=>if j=i then x else ps j
theorem rowPs_set (ps:PcF) (n i:Nat) (p:PCE) (a:Option Addr):
 (((((((((rowPs ps n).setIfInBounds (i*8) (.int .i64 (p.len:Int))).setIfInBounds (i*8+1) (.int .i64 (p.nl:Int))).setIfInBounds (i*8+2) (.pointer a)).setIfInBounds (i*8+3) (UV p.tk)).setIfInBounds (i*8+4) (.int .i64 (p.inside:Int))).setIfInBounds (i*8+5) (UV p.en)).setIfInBounds (i*8+6) (UV p.la)).setIfInBounds (i*8+7) (.int .i64 (p.tail:Int)))=rowPs (updP ps i (p,a)) n:=by
 unfold rowPs
 rw [cellsF_set _ (fun k=>if k=i*8 then (.int .i64 (p.len:Int)) else rowP ps k) _ _ (fun _ _=>rfl)]
 rw [cellsF_set _ (fun k=>if k=i*8+1 then (.int .i64 (p.nl:Int)) else if k=i*8 then (.int .i64 (p.len:Int)) else rowP ps k) _ _ (fun _ _=>rfl)]
 rw [cellsF_set _ (fun k=>if k=i*8+2 then (.pointer a) else if k=i*8+1 then (.int .i64 (p.nl:Int)) else if k=i*8 then (.int .i64 (p.len:Int)) else rowP ps k) _ _ (fun _ _=>rfl)]
 rw [cellsF_set _ (fun k=>if k=i*8+3 then (UV p.tk) else if k=i*8+2 then (.pointer a) else if k=i*8+1 then (.int .i64 (p.nl:Int)) else if k=i*8 then (.int .i64 (p.len:Int)) else rowP ps k) _ _ (fun _ _=>rfl)]
 rw [cellsF_set _ (fun k=>if k=i*8+4 then (.int .i64 (p.inside:Int)) else if k=i*8+3 then (UV p.tk) else if k=i*8+2 then (.pointer a) else if k=i*8+1 then (.int .i64 (p.nl:Int)) else if k=i*8 then (.int .i64 (p.len:Int)) else rowP ps k) _ _ (fun _ _=>rfl)]
 rw [cellsF_set _ (fun k=>if k=i*8+5 then (UV p.en) else if k=i*8+4 then (.int .i64 (p.inside:Int)) else if k=i*8+3 then (UV p.tk) else if k=i*8+2 then (.pointer a) else if k=i*8+1 then (.int .i64 (p.nl:Int)) else if k=i*8 then (.int .i64 (p.len:Int)) else rowP ps k) _ _ (fun _ _=>rfl)]
 rw [cellsF_set _ (fun k=>if k=i*8+6 then (UV p.la) else if k=i*8+5 then (UV p.en) else if k=i*8+4 then (.int .i64 (p.inside:Int)) else if k=i*8+3 then (UV p.tk) else if k=i*8+2 then (.pointer a) else if k=i*8+1 then (.int .i64 (p.nl:Int)) else if k=i*8 then (.int .i64 (p.len:Int)) else rowP ps k) _ _ (fun _ _=>rfl)]
 rw [cellsF_set _ (fun k=>if k=i*8+7 then (.int .i64 (p.tail:Int)) else if k=i*8+6 then (UV p.la) else if k=i*8+5 then (UV p.en) else if k=i*8+4 then (.int .i64 (p.inside:Int)) else if k=i*8+3 then (UV p.tk) else if k=i*8+2 then (.pointer a) else if k=i*8+1 then (.int .i64 (p.nl:Int)) else if k=i*8 then (.int .i64 (p.len:Int)) else rowP ps k) _ _ (fun _ _=>rfl)]
 refine cellsF_congr fun k hk=>?_
 have hu:rowP (updP ps i (p,a)) k=if k / 8=i then ((pcCells p a)[k % 8]?).getD undef else rowP ps k:=by
  unfold rowP updP
  by_cases h:k / 8=i
  · simp only [if_pos h]
  · simp only [if_neg h]
 rw [hu]
 by_cases h:k / 8=i
 · rw [if_pos h]
   have h8:k % 8=0∨k % 8=1∨k % 8=2∨k % 8=3∨k % 8=4∨k % 8=5∨k % 8=6∨k % 8=7:=by omega
   rcases h8 with h8 | h8 | h8 | h8 | h8 | h8 | h8 | h8 <;> rw [h8]
   · rw [if_neg (by omega),if_neg (by omega),if_neg (by omega),if_neg (by omega),if_neg (by omega),if_neg (by omega),if_neg (by omega),if_pos (by omega)];rfl
   · rw [if_neg (by omega),if_neg (by omega),if_neg (by omega),if_neg (by omega),if_neg (by omega),if_neg (by omega),if_pos (by omega)];rfl
   · rw [if_neg (by omega),if_neg (by omega),if_neg (by omega),if_neg (by omega),if_neg (by omega),if_pos (by omega)];rfl
   · rw [if_neg (by omega),if_neg (by omega),if_neg (by omega),if_neg (by omega),if_pos (by omega)];rfl
   · rw [if_neg (by omega),if_neg (by omega),if_neg (by omega),if_pos (by omega)];rfl
   · rw [if_neg (by omega),if_neg (by omega),if_pos (by omega)];rfl
   · rw [if_neg (by omega),if_pos (by omega)];rfl
   · rw [if_pos (by omega)];rfl
 · rw [if_neg h,if_neg (by omega),if_neg (by omega),if_neg (by omega),if_neg (by omega),if_neg (by omega),if_neg (by omega),if_neg (by omega),if_neg (by omega)]
def Real (T:List (List Nat)) (j:Nat):Prop:=j<256+T.length∧(symT T j).length≤1099511627776
theorem pbd_of {M:MP} {inv:Bool} {x:List Nat} {p:PCE} (h:PieceOk M inv x p) (hz:p.nl=0→p.inside=0∧p.tail=0) (hl:x.length≤1099511627776):PBd p:=by
 have h1:=h.nl
 have h2:=nls_le x
 rw [crA_count] at h1
 have h3:=h.len
 refine ⟨by omega,by omega,?_,?_⟩
 · by_cases hn:p.nl=0
   · rw [(hz hn).1];omega
   · rw [h.inside hn]
     have:=cnt_le M inv (crA [] x).1.tail
     have h4:=h.nl
     rw [List.length_tail] at this
     omega
 · by_cases hn:p.nl=0
   · rw [(hz hn).2];omega
   · rw [h.tail hn]
     have:=crA_rest_le x []
     simp at this;omega
structure PGood (M:MP) (inv:Bool) (x:List Nat) (p:PCE):Prop where
 ok:PieceOk M inv x p
 z:p.nl=0→p.inside=0∧p.tail=0
theorem bytePC_good (M:MP) (inv:Bool) (c:Nat):PGood M inv [c] (bytePC M c):=⟨bytePC_ok M inv c,fun h=>by
 unfold bytePC at h ⊢
 split
 · rename_i hc;rw [if_pos hc] at h;cases h
 · exact ⟨rfl,rfl⟩⟩
theorem join_good {M:MP} {inv:Bool} {x y:List Nat} {a b:PCE} (ha:PGood M inv x a) (hb:PGood M inv y b):PGood M inv (x++y) (joinPC inv a b):=⟨pjoin_ok ha.ok hb.ok,fun h=>by
 unfold joinPC at h ⊢
 by_cases h0:a.nl+b.nl=0
 · rw [if_pos h0];exact ⟨rfl,rfl⟩
 · rw [if_neg h0] at h;exact absurd h h0⟩
structure SP (w:World) (bt gp n N L:Nat) (inv:Bool) (M:MP) (t:TT) (rv sv:Value) (T:List (List Nat)) (ps:PcF) (k:Nat):Prop where
 p:Blk w gp (rowPs ps n) 119
 tr:TR w N bt t rv sv
 n:n=256+t.rules.length
 low:N≤L∧L≤gp
 good:∀j,j<k→Real T j→PGood M inv (symT T j) (ps j).1∧PTab w (ps j).1 (ps j).2∧∀A,(ps j).2=some A→(N≤A.block∧A.block<L)∨gp<A.block
section
variable {w w':World} {gs bt gp n N L:Nat} {beg:B64} {inv:Bool} {mx:Int} {M:MP} {t:TT} {rv sv:Value} {T:List (List Nat)} {ps:PcF} {k:Nat}
theorem SP.kept (h:SP w bt gp n N L inv M t rv sv T ps k) (q:Kept [] w w'):SP w' bt gp n N L inv M t rv sv T ps k:=
 ⟨h.p.kept q (by simp),h.tr.kept q,h.n,h.low,fun j hj hr=>by
  obtain ⟨h1,h2,h3⟩:=h.good j hj hr
  exact ⟨h1,h2.kept q,h3⟩⟩
theorem ptab_keep {S:List Nat} {p:PCE} {a:Option Addr} (h:PTab w p a) (q:Kept S w w') (hs:∀A,a=some A→¬A.block∈S):PTab w' p a:=fun hn=>by
 obtain ⟨G,O,e,h1,h2⟩:=h hn
 exact ⟨G,O,e,tabAt_keep h1 q h2 (hs _ e),Nat.lt_of_lt_of_le h2 q.size⟩
theorem SP.keep (h:SP w bt gp n N L inv M t rv sv T ps k) {S:List Nat} (q:Kept S w w') (hS:∀x,x∈S→L≤x∧x<gp):SP w' bt gp n N L inv M t rv sv T ps k:=by
 have hgp:¬gp∈S:=fun hc=>by have:=hS _ hc;omega
 have hlow:=h.low
 refine ⟨h.p.kept q hgp,h.tr.under (m:=L) (q.below (by have:=h.p.lt;omega) (fun x hx=>(hS x hx).1)) hlow.1,h.n,h.low,fun j hj hr=>?_⟩
 obtain ⟨h1,h2,h3⟩:=h.good j hj hr
 exact ⟨h1,ptab_keep h2 q (fun A hA hc=>by
  have:=h3 A hA
  have:=hS _ hc
  omega),h3⟩
theorem SP.pat (h:SP w bt gp n N L inv M t rv sv T ps k) {j:Nat} (hj:j<k) (hn:j<n) (hr:Real T j):PAt w gp (j*8) (ps j).1 (ps j).2:=by
 obtain ⟨h1,h2,h3⟩:=h.good j hj hr
 exact ⟨fun i hi=>by rw [h.p.cell,rowPs_get ps hn hi],h2,pbd_of h1.ok h1.z hr.2,h.p.lt⟩
theorem SP.low_keep (h:SP w bt gp n N L inv M t rv sv T ps k) {S:List Nat} (q:Kept S w w') (hS:∀x,x∈S→x<N) (tr:TR w' N bt t rv sv):SP w' bt gp n N L inv M t rv sv T ps k:=by
 have hlow:=h.low
 refine ⟨h.p.kept q (fun hc=>by have:=hS _ hc;omega),tr,h.n,h.low,fun j hj hr=>?_⟩
 obtain ⟨h1,h2,h3⟩:=h.good j hj hr
 exact ⟨h1,ptab_keep h2 q (fun A hA hc=>by
  have:=h3 A hA
  have:=hS _ hc
  omega),h3⟩
abbrev put8 (w:World) (g o:Nat) (p:PCE) (a:Option Addr):World:=
 (((((((w.setCell ⟨g,o,none⟩ (.int .i64 (p.len:Int))).setCell ⟨g,o+1,none⟩ (.int .i64 (p.nl:Int))).setCell ⟨g,o+2,none⟩ (.pointer a)).setCell ⟨g,o+3,none⟩ (UV p.tk)).setCell ⟨g,o+4,none⟩ (.int .i64 (p.inside:Int))).setCell ⟨g,o+5,none⟩ (UV p.en)).setCell ⟨g,o+6,none⟩ (UV p.la)).setCell ⟨g,o+7,none⟩ (.int .i64 (p.tail:Int))
theorem kept_put8 (w:World) (g o:Nat) (p:PCE) (a:Option Addr):Kept [g] w (put8 w g o p a):=
 ((((((((Kept.refl [g] w).setCell (Or.inl (by simp)) _).setCell (Or.inl (by simp)) _).setCell (Or.inl (by simp)) _).setCell (Or.inl (by simp)) _).setCell (Or.inl (by simp)) _).setCell (Or.inl (by simp)) _).setCell (Or.inl (by simp)) _).setCell (Or.inl (by simp)) _
theorem SP.put (h:SP w bt gp n N L inv M t rv sv T ps k) (p:PCE) (a:Option Addr) (hp:Real T k→PGood M inv (symT T k) p∧PTab w p a) (ha:∀A,a=some A→(N≤A.block∧A.block<L)∨gp<A.block):
 SP (put8 w gp (k*8) p a) bt gp n N L inv M t rv sv T (updP ps k (p,a)) (k+1):=by
 have q:=kept_put8 w gp (k*8) p a
 have hlow:=h.low
 have hb:Blk (put8 w gp (k*8) p a) gp (rowPs (updP ps k (p,a)) n) 119:=by
  rw [←rowPs_set]
  exact (((((((h.p.set _ _).set _ _).set _ _).set _ _).set _ _).set _ _).set _ _).set _ _
 refine ⟨hb,h.tr.under (m:=gp) (q.below (Nat.le_of_lt h.p.lt) (by simp)) (by omega),h.n,h.low,fun j hj hr=>?_⟩
 unfold updP
 by_cases hjk:j=k
 · subst hjk
   simp only [if_pos]
   obtain ⟨h1,h2⟩:=hp hr
   exact ⟨h1,ptab_keep h2 q (fun A hA hc=>by have:=ha A hA;simp at hc;omega),ha⟩
 · simp only [if_neg hjk]
   obtain ⟨h1,h2,h3⟩:=h.good j (by omega) hr
   exact ⟨h1,ptab_keep h2 q (fun A hA hc=>by have:=h3 A hA;simp at hc;omega),h3⟩
end
structure SI (w:World) (gs bt gp n N L:Nat) (beg:B64) (inv:Bool) (mx:Int) (M:MP) (t:TT) (rv sv:Value) (T:List (List Nat)) (ps:PcF) (k:Nat):Prop where
 s:Blk w gs (seCells bt beg inv mx (.slice (some ⟨gp,0,none⟩) n n)) 34
 sp:SP w bt gp n N L inv M t rv sv T ps k
section
variable {w w':World} {gs bt gp n N L:Nat} {beg:B64} {inv:Bool} {mx:Int} {M:MP} {t:TT} {rv sv:Value} {T:List (List Nat)} {ps:PcF} {k:Nat}
theorem SI.kept (h:SI w gs bt gp n N L beg inv mx M t rv sv T ps k) (q:Kept [] w w'):SI w' gs bt gp n N L beg inv mx M t rv sv T ps k:=⟨h.s.kept q (by simp),h.sp.kept q⟩
theorem SI.cinv (h:SI w gs bt gp n N L beg inv mx M t rv sv T ps k):w.cell? ⟨gs,2,none⟩=some (.bool inv):=h.s.cell 2
theorem piece_at (h:SI w gs bt gp n N L beg inv mx M t rv sv T ps k) {j:Nat} (hn:j<n):
 Calls Tryz.prog 16 #[.pointer (some ⟨gs,0,none⟩),.int .i64 (j:Int)] w fun e w'=>e=.returned (.pointer (some ⟨gp,j*8,none⟩))∧w'=w:=by
 have c4:w.cell? ⟨gs,4,none⟩=some (.slice (some ⟨gp,0,none⟩) n n):=h.s.cell 4
 have hj:(j:Int)<(n:Int):=by omega
 have hj0:(0:Int)≤(j:Int):=by omega
 clear h
 go_enter Tryz.func16,Tryz.ntmps16
 go_wp2
 go_ret
 exact ⟨rfl,rfl⟩
structure ROut (w w':World) (M:MP) (inv:Bool) (T:List (List Nat)) (i:Nat) (e:Ending):Prop where
 k:Kept [] w w'
 ex:∃p a,e=.returned (.agg (pcCells p a))∧(Real T i→PGood M inv (symT T i) p∧PTab w' p a)∧∀A,a=some A→w.heap.size≤A.block
theorem ruleP_any (h:SI w gs bt gp n N L beg inv mx M t rv sv T ps k) (hS:Sound t.rules T) (hR:t.rules.length≤9000) (hk:256≤k) (hn:k<n):
 Calls Tryz.prog 37 #[.pointer (some ⟨gs,0,none⟩),.int .i64 (k:Int)] w fun e w'=>ROut w w' M inv T k e:=by
 have hnn:=h.sp.n
 have hSl:=hS.len
 obtain ⟨x,hx⟩:∃x,t.rules[k-256]?=some x:=⟨_,List.getElem?_eq_getElem (by omega)⟩
 obtain ⟨x1,x2,x3,x4⟩:=hS.rule _ _ hx
 have hsym:symT T k=T.getD (k-256) []:=by unfold symT;rw [if_neg (by omega)]
 have hat:ruleAt t.rules (k:Int)=x:=by
  unfold ruleAt
  rw [if_pos (by omega),show ((k:Int)-256).toNat=k-256 by omega,hx];rfl
 have hlen:x.pt.len=capL (symT T k).length:=by rw [x4,ptOf_len,hsym]
 have hru:Hid (∀w',Kept [] w w'→Calls Tryz.prog 71 #[.pointer (some ⟨bt,0,none⟩),.int .i64 (k:Int)] w' fun e w2=>e=.returned (.agg #[.int .i64 (x.l:Int),.int .i64 (x.r:Int),.int .i64 (x.pt.len:Int),.int .i64 (x.pt.nl:Int),.int .i64 (x.pt.first:Int),.int .i64 (x.pt.last:Int)])∧Kept [] w' w2):=fun w' q=>by
  have:=ruleT_any (h.sp.tr.kept q) k (by omega) (by omega)
  rw [hat] at this
  exact this
 have c0:w.cell? ⟨gs,0,none⟩=some (.pointer (some ⟨bt,0,none⟩)):=h.s.cell 0
 have hgs:=h.s.lt
 have hB:Hid (Blk (w.alloc (.cells z8 119)) w.heap.size z8 119):=Blk.new w _ _
 have hK:Hid (Kept [] w (w.alloc (.cells z8 119))):=(Kept.refl [] w).alloc _
 have hpc:Hid (∀w' (j:Nat),Kept [] w w'→j<k→Calls _ _ _ w' _):=fun w' j q hj=>piece_at (h.kept q) (j:=j) (by omega)
 have hxl:x.l<k:=by omega
 have hxr:x.r<k:=by omega
 have hjn:Hid ((symT T k).length≤1099511627776→∀w',Kept [] w w'→Calls Tryz.prog 72 #[.pointer (some ⟨gs,0,none⟩),.pointer (some ⟨gp,x.l*8,none⟩),.pointer (some ⟨gp,x.r*8,none⟩)] w' fun e w2=>Kept [] w' w2∧∃p a,e=.returned (.agg (pcCells p a))∧(PGood M inv (symT T k) p∧PTab w2 p a)∧∀A,a=some A→w'.heap.size≤A.block):=fun hl w' q=>by
  have h':=h.kept q
  have e:symT T k=symT T x.l++symT T x.r:=by rw [hsym,x3]
  have el:(symT T k).length=(symT T x.l).length+(symT T x.r).length:=by rw [e,List.length_append]
  have rl:Real T x.l:=⟨by omega,by omega⟩
  have rr:Real T x.r:=⟨by omega,by omega⟩
  have pl:=h'.sp.pat hxl (by omega) rl
  have pr:=h'.sp.pat hxr (by omega) rr
  obtain ⟨gl,_,_⟩:=h'.sp.good x.l hxl rl
  obtain ⟨gr,_,_⟩:=h'.sp.good x.r hxr rr
  refine (sjoin_any pl pr h'.cinv h'.s.lt (by rw [gl.ok.len,gr.ok.len];omega)).mono ?_
  rintro e' w2 ⟨k2,a,rfl,ht,hA⟩
  refine ⟨k2,_,a,rfl,⟨?_,ht⟩,fun A hx=>?_⟩
  · rw [e];exact join_good gl gr
  · rcases hA A hx with hx | hx
    · simp at hx
    · exact hx
 have hbig:Hid (¬(symT T k).length≤1099511627776→∀w',Kept [] w w'→ROut w w' M inv T k (.returned (.agg (pcCells {} none)))):=fun hl w' q=>⟨q,{},none,rfl,fun hr=>absurd hr.2 hl,fun A hA=>by cases hA⟩
 have hsmall:Hid (∀w' p a,Kept [] w w'→(PGood M inv (symT T k) p∧PTab w' p a)→(∀A,a=some A→w.heap.size≤A.block)→ROut w w' M inv T k (.returned (.agg (pcCells p a)))):=fun w' p a q h1 h2=>⟨q,p,a,rfl,fun _=>h1,h2⟩
 have hcap:x.pt.len≤1099511627777:=by rw [hlen];exact capL_le _
 clear h hS hx x1 x2 x3 x4 hsym hat
 have hxlH:Hid (x.l<k):=hxl
 have hxrH:Hid (x.r<k):=hxr
 by_cases hl:(symT T k).length≤1099511627776
 · have hle:¬(1099511627776:Int)<(x.pt.len:Int):=by rw [hlen,capL_of (by omega)];omega
   have hj:Hid (∀w',_):=hjn.out hl
   clear hbig hjn hlen hl
   obtain ⟨xl,xr,⟨p1,p2,p3,p4⟩⟩:=x
   simp only [] at *
   unfold z8 at hB hK
   go_enter Tryz.func37,Tryz.ntmps37
   go_wp2_with (first
    | (go_at_call 71;refine (hru.out _ hK.out).mono ?_;rintro _ w2 ⟨rfl,k2⟩;have B2:Hid (Blk _ _ _ _):=hB.out.kept k2 (by simp);have K2:Hid (Kept [] w w2):=hK.out.trans k2;have hl2:=B2.out.lt)
    | (go_at_call_of 16 (Value.int IntKind.i64 (xl:Int));refine (hpc.out _ xl (K2.out.alloc _) hxlH.out).mono ?_;rintro _ _ ⟨rfl,rfl⟩)
    | (go_at_call_of 16 (Value.int IntKind.i64 (xr:Int));refine (hpc.out _ xr (K2.out.alloc _) hxrH.out).mono ?_;rintro _ _ ⟨rfl,rfl⟩)
    | (go_at_call 72;refine (hj.out _ (K2.out.alloc _)).mono ?_;rintro _ w5 ⟨k5,p,a,rfl,hP,hA⟩;have K5:Hid (Kept [] w w5):=(K2.out.alloc _).trans k5;have B5:Hid (Blk w5 w.heap.size _ _):=(B2.out.alloc _).kept k5 (by simp);have hPH:Hid (_∧_):=hP;have hAH:Hid (∀A,_):=hA;clear hP hA k5;unfold pcCells;obtain ⟨g0,g1,g2,g3,g4,g5,g6,g7,gl⟩:=all8 B5.out;obtain ⟨f0,f1,f2,f3,f4,f5,f6,f7⟩:=froz8 B5.out))
   have B6:=res8 B5.out (.int .i64 (p.len:Int)) (.int .i64 (p.nl:Int)) (.pointer a) (UV p.tk) (.int .i64 (p.inside:Int)) (UV p.en) (UV p.la) (.int .i64 (p.tail:Int))
   obtain ⟨x0,x1,x2,x3,x4,x5,x6,x7,_⟩:=all8 B6
   have kS:=kept_put8 w5 w.heap.size 0 p a
   refine bodyPost_ret (v:=.agg (pcCells p a)) (by simp [results,Tryz.results37,go_sem,pcCells,x0,x1,x2,x3,x4,x5,x6,x7]) rfl (hsmall.out _ p a (keptP8 K5.out (Nat.le_refl _) _ _ _ _ _ _ _ _) ⟨hPH.out.1,ptab_keep hPH.out.2 kS (fun A hA hc=>?_)⟩ (fun A hA=>?_))
   · have:=hAH.out A hA
     simp at hc this;omega
   · have:=hAH.out A hA
     simp at this;omega
 · have hle:(1099511627776:Int)<(x.pt.len:Int):=by
    rw [hlen]
    rcases capL_cases (symT T k).length with ⟨_,h⟩ | ⟨_,h⟩ <;> rw [h] <;> omega
   have hb:Hid (∀w',_):=hbig.out hl
   clear hbig hjn hsmall hlen hl
   obtain ⟨xl,xr,⟨p1,p2,p3,p4⟩⟩:=x
   simp only [] at *
   unfold z8 at hB hK
   go_enter Tryz.func37,Tryz.ntmps37
   go_wp2_with (go_at_call 71;refine (hru.out _ hK.out).mono ?_;rintro _ w2 ⟨rfl,k2⟩;have B2:Hid (Blk _ _ _ _):=hB.out.kept k2 (by simp);have K2:Hid (Kept [] w w2):=hK.out.trans k2;have hl2:=B2.out.lt;obtain ⟨g0,g1,g2,g3,g4,g5,g6,g7,gl⟩:=all8 B2.out;obtain ⟨f0,f1,f2,f3,f4,f5,f6,f7⟩:=froz8 B2.out)
   have B6:=(res8 B2.out (.int .i64 0) (.int .i64 0) (.pointer none) (.int .u64 0) (.int .i64 0) (.int .u64 0) (.int .u64 0) (.int .i64 0)).alloc (.cells #[.int .i64 (xl:Int),.int .i64 (xr:Int),.int .i64 (p1:Int),.int .i64 (p2:Int),.int .i64 (p3:Int),.int .i64 (p4:Int)] 159)
   obtain ⟨x0,x1,x2,x3,x4,x5,x6,x7,_⟩:=all8 B6
   refine bodyPost_ret (v:=.agg (pcCells {} none)) (by simp [results,Tryz.results37,go_sem,pcCells,x0,x1,x2,x3,x4,x5,x6,x7]) rfl (hb.out _ ((keptP8 K2.out (Nat.le_refl _) _ _ _ _ _ _ _ _).alloc _))
end
end Go.Proofs.YtgifhgnccmnbiabGreat
