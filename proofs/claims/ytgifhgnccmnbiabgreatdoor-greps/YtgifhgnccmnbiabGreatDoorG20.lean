/- Part of the proof. -/
import Derived.Test.YtgifhgnccmnbiabGreatDoorG17
import Derived.Test.YtgifhgnccmnbiabGreatDoorG19
import Derived.Laws.IdiomStrings
import Derived.Lib.BufferRead
import Derived.Test.YtgifhgnccmnbiabGreatDoorG18
import Derived.Test.YtgifhgnccmnbiabGreatDoorG16
set_option linter.unusedVariables false
set_option linter.unusedSimpArgs false
set_option maxHeartbeats 4000000
set_option maxRecDepth 100000
namespace Go.Proofs.YtgifhgnccmnbiabGreatDoor
open Go.RowKit Go.IntWalk
def dH(l:List Nat):ByteArray:=⟨(l.map Nat.toUInt8).toArray⟩
theorem Ca{w:World}{base:Nat}{v:Value}{out:List Nat}(h:w.ownsRow base 5 1 v out.length (byteCells out))(hb:∀c,c∈out->c<256):
 (convert 77 9 v).run Tryz.prog w=.ok (.string (dH out)) w:=by
 rcases h.2 with⟨h1,h2⟩|⟨g,cap,cur,h1,h2,h3,h4⟩
 ·have e:out=[]:=List.eq_nil_of_length_eq_zero h2;subst e;rw[h1];exact Lib.run_convert_nil_bytes (P:=Tryz.prog) w 77 9 5 0 Tryz.underlying77 Tryz.underlying5 Tryz.underlying9
 ·subst h1;have hl:(out.map Nat.toUInt8).length=out.length:=List.length_map ..;have:=run_convert_bytes_back (P:=Tryz.prog) w 77 9 5 ⟨g,0,none⟩ cap (out.map Nat.toUInt8) Tryz.underlying77 Tryz.underlying5 Tryz.underlying9 (fun j hj=>by
   rw[hl]at hj;have hc:(byteCells out)[j]?=some (.int .u8 (out[j]:Int)):=by unfold byteCells;rw[List.getElem?_map,List.getElem?_eq_getElem hj];rfl
   rw[h.cells (g:=g) rfl j _ hc,List.getElem_map];have bO:=hb out[j] (List.getElem_mem hj);rw[Nat.toUInt8_eq,UInt8.toNat_ofNat',Nat.mod_eq_of_lt (by omega)])
  rw[hl]at this;exact this
structure pJ (t:TT)(T:List (List Nat)):Prop where
 sound:Sound t.rules T
 start:∀s,s∈t.start->s<256+t.rules.length
 whole:t.whole=ik (t.start.flatMap (af T))
 WD:t.rules.length<=9000
 WE:t.start.length<=9000
theorem pJ.len{t:TT}{T:List (List Nat)}(h:pJ t T)(hw:t.whole.len<=1099511627776):(t.start.flatMap (af T)).length=t.whole.len:=by
 rw[h.whole,gR]at hw ⊢;exact(ux hw).symm
theorem wM{T:List (List Nat)}:∀{l:List Nat} {s:Nat},s∈l->(af T s).length<=(l.flatMap (af T)).length
 | x :: l,s,h=>by
   rw[List.flatMap_cons,List.length_append];rcases List.mem_cons.1 h with h|h
   ·subst h;omega
   ·have:=wM (T:=T) h;omega
theorem Sound.byte{rs:List RU}{T:List (List Nat)}(h:Sound rs T):∀(k s:Nat),s<k->s<256+rs.length->∀c,c∈af T s->c<256:=by
 intro k;induction k with
 | zero=>intro s hs;omega
 | succ k ih=>
   intro s hs ji c hc;by_cases h1:s<256
   ·unfold af at hc;rw[if_pos h1]at hc;simp at hc;omega
   ·obtain⟨x,hx⟩:∃x,rs[s-256]?=some x:=⟨_,List.getElem?_eq_getElem (by omega)⟩;obtain⟨u1,u2,u3,_⟩:=h.uy _ _ hx;have e:af T s=af T x.l++af T x.r:=by rw[<-u3];unfold af;rw[if_neg h1]
    rw[e]at hc;rcases List.mem_append.1 hc with hc|hc
    ·exact ih x.l (by omega) (by omega) c hc
    ·exact ih x.r (by omega) (by omega) c hc
theorem pJ.byte{t:TT}{T:List (List Nat)}(h:pJ t T):∀c,c∈t.start.flatMap (af T)->c<256:=fun c hc=>by
 obtain⟨s,h1,h2⟩:=List.mem_flatMap.1 hc;exact h.sound.byte (s+1) s (by omega) (h.start s h1) c h2
structure FU (w0 w:World)(n b:Nat)(t:TT)(rv sv:Value)(T:List (List Nat))(fr dst q:Nat):Prop where
 text:TR w n b t rv sv
 below:Below w0.heap.size w0 w
 ex:∃a k c,tG w w0.heap.size b fr dst (min ((t.start.take q).flatMap (af T)).length dst) (.slice a k c) (fs ((t.start.take q).flatMap (af T)) fr dst 0)
theorem IM{T:List (List Nat)}{t:TT}(hS:pJ t T)(hw:t.whole.len<=1099511627776){n b:Nat}{rv sv:Value}{fr dst:Nat}(hfd:fr<=dst)(hd:dst<=1099511627776)(w:World)(hT:TR w n b t rv sv)(hn:n<=w.heap.size):
 Calls Tryz.prog 59 #[.pointer (some ⟨b,0,none⟩),.int .i64 (fr:Int),.int .i64 (dst:Int)] w fun e w'=>e=.returned (.string (dH (fs (t.start.flatMap (af T)) fr dst 0)))/\Below w.heap.size w w':=by
 have En:=hS.len hw;have h0:Hid (FU w (w.alloc (.cells #[.pointer (some ⟨b,0,none⟩),.int .i64 (fr:Int),.int .i64 (dst:Int),.int .i64 0,.slice none 0 0] 175)) n b t rv sv T fr dst 0):=
  ⟨hT.kept ((Kept.refl [] w).alloc _),(Below.refl _ _).alloc (Nat.le_refl _) _,none,0,0,by
   have e1:fs ((t.start.take 0).flatMap (af T)) fr dst 0=[]:=by rw[List.take_zero,List.flatMap_nil,S7]
   have e2:min ((t.start.take 0).flatMap (af T)).length dst=0:=by rw[List.take_zero,List.flatMap_nil];simp
   rw[e1,e2];exact⟨ah.new w _ _,World.ownsRow_nil _ _ _ _,Nat.zero_le _⟩⟩
 clear hT;go_enter Tryz.func59,Tryz.ntmps59
 go_wp2_with fail
 go_loopw [8] (fun iv wr=>∃q:Nat,iv=.int .i64 (q:Int)/\q<=t.start.length/\FU w wr n b t rv sv T fr dst q) (fun iv _=>((t.start.length:Int)-intOf iv).toNat)
 case atStart=>exact⟨0,rfl,Nat.zero_le _,h0.out⟩
 case round=>
  obtain⟨q,rfl,hq,hI⟩:=hrel;clear h0;obtain⟨hT,GF,oa,ok,oc,hC⟩:=hI;obtain⟨sa,sk,sc,Cb⟩:=bp hT.start;have KJ:=hS.WE;have hX:Hid (∀q,((t.start.take q).flatMap (af T))++((t.start.drop q).flatMap (af T))=t.start.flatMap (af T)):=fun q=>by rw[<-List.flatMap_append,List.take_append_drop]
  have dE:Hid (dst<=((t.start.take q).flatMap (af T)).length\/q=t.start.length->fs ((t.start.take q).flatMap (af T)) fr dst 0=fs (t.start.flatMap (af T)) fr dst 0):=fun h=>by
   rcases h with h|h
   ·rw[<-hX.out q,BB,tf (x:=(t.start.drop q).flatMap (af T)) (by omega),List.append_nil]
   ·rw[h,List.take_length]
  have xi:Hid (∀c,c∈fs ((t.start.take q).flatMap (af T)) fr dst 0->c<256):=Pr fun c hc=>hS.byte c (by
   rw[<-hX.out q];exact List.mem_append_left _ hc)
  have d3:wr.cell? ⟨w.heap.size,3,none⟩=some (.int .i64 ((min ((t.start.take q).flatMap (af T)).length dst:Nat):Int)):=hC.aD.cell 3;have d4:wr.cell? ⟨w.heap.size,4,none⟩=some (.slice oa ok oc):=hC.aD.cell 4;have c3:wr.cell? ⟨b,3,none⟩=some sv:=hT.cell 3;have nW:(convert 77 9 (.slice oa ok oc)).run Tryz.prog wr=.ok (.string (dH (fs ((t.start.take q).flatMap (af T)) fr dst 0))) wr:=Ca hC.row xi.out;have Gs:Hid (Below w.heap.size w wr):=GF;have pq:Hid (TR _ _ _ _ _ _):=hT;have lZ:Hid (tG _ _ _ _ _ _ _ _):=hC;by_cases bO:(q:Int)<(t.start.length:Int)
  ·by_cases hpd:((min ((t.start.take q).flatMap (af T)).length dst:Nat):Int)<(dst:Int)
   ·obtain⟨s,hs⟩:∃s,t.start[q]?=some s:=⟨_,List.getElem?_eq_getElem (by omega)⟩;obtain⟨g,cap,hv⟩:=aO hT.start (by omega);have fI:wr.cell? ⟨g,q,none⟩=some (.int .i64 (s:Int)):=by
     have hc:(aF t.start)[q]?=some (.int .i64 (s:Int)):=by unfold aF;rw[List.getElem?_map,hs];rfl
     have:=hT.start.cells (g:=g) (by rw[hv];rfl) q _ hc;rwa [cK]at this
    have hm:s∈t.start:=List.mem_of_getElem? hs;have uF:Hid (Calls _ _ _ wr _):=Lu hS.sound (by have:=hS.WD;omega) hfd hd w.heap.size hn (s+1) s (by omega) (hS.start s hm) (by have:=wM (T:=T) hm;omega) _ _ _ wr hT hC (Nat.min_le_right _ _);have cy:Hid (∀w',qp wr w' w.heap.size b fr dst (min ((t.start.take q).flatMap (af T)).length dst) (af T s) (fs ((t.start.take q).flatMap (af T)) fr dst 0)->FU w w' n b t rv sv T fr dst (q+1)):=fun w' o=>by
     obtain⟨ov,Wn⟩:=o.ex;obtain⟨xa,xk,xc,rfl⟩:=bp Wn.row;refine⟨pq.out.under o.below hn,Gs.out.trans o.below,xa,xk,xc,?_⟩;have e:(t.start.take (q+1)).flatMap (af T)=(t.start.take q).flatMap (af T)++af T s:=by
      rw[List.take_add_one,hs,List.flatMap_append];simp
     rw[e,BB,Nat.zero_add,List.length_append];rw[Iy]at Wn;rw[show min (((t.start.take q).flatMap (af T)).length+(af T s).length) dst=min (min ((t.start.take q).flatMap (af T)).length dst+(af T s).length) dst by omega];exact Wn
    subst hv;clear Cb hT hC GF hS hs hm dE xi nW;generalize ((min ((t.start.take q).flatMap (af T)).length dst:Nat):Int)=P at *;generalize t.start.length=N at *;go_wp2_with (go_at_call 101;refine uF.out.mono ?_;rintro _ w5 ⟨rfl,o5⟩)
    refine⟨⟨q+1,by go_num,by omega,cy.out _ o5⟩,?_⟩;simp only[intOf];omega
   ·have e:=dE.out (Or.inl (by omega));rw[e]at nW;subst Cb;have ix:sk=t.start.length:=by
     rcases hT.start.2 with⟨h1,h2⟩|⟨g,cap,_,h1,_⟩
     ·simp at h1;omega
     ·simp at h1;omega
    subst ix;clear hT hC GF hS dE xi e;generalize ((min ((t.start.take q).flatMap (af T)).length dst:Nat):Int)=P at *;obtain⟨R,hR⟩:∃R,Hid (dH (fs (t.start.flatMap (af T)) fr dst 0)=R):=⟨_,rfl⟩;rw[hR.out]at nW;generalize t.start.length=N at *;go_wp2
    go_ret;exact⟨by rw[hR.out];rfl,Gs.out⟩
  ·have e:=dE.out (Or.inr (by omega));rw[e]at nW;subst Cb;have ix:sk=t.start.length:=by
    rcases hT.start.2 with⟨h1,h2⟩|⟨g,cap,_,h1,_⟩
    ·simp at h1;omega
    ·simp at h1;omega
   subst ix;clear hT hC GF hS dE xi e;generalize ((min ((t.start.take q).flatMap (af T)).length dst:Nat):Int)=P at *;obtain⟨R,hR⟩:∃R,Hid (dH (fs (t.start.flatMap (af T)) fr dst 0)=R):=⟨_,rfl⟩;rw[hR.out]at nW;generalize t.start.length=N at *;go_wp2
   go_ret;exact⟨by rw[hR.out];rfl,Gs.out⟩
structure fD (w:World)(gs bt gp N L:Nat)(inv:Bool)(mx:Int)(M:MP)(t:TT)(rv sv:Value)(T:List (List Nat))(ps:C7):Prop where
 si:SI w gs bt gp (256+t.rules.length) N L M.cL inv mx M t rv sv T ps (256+t.rules.length)
 st:pJ t T
 len:(t.start.flatMap (af T)).length<=1099511627776
section
variable {w w':World}{gs bt gp N L:Nat}{inv:Bool}{mx:Int}{M:MP}{t:TT}{rv sv:Value}{T:List (List Nat)}{ps:C7}
theorem fD.kept(h:fD w gs bt gp N L inv mx M t rv sv T ps)(q:Kept [] w w'):fD w' gs bt gp N L inv mx M t rv sv T ps:=⟨h.si.kept q,h.st,h.len⟩
theorem fD.real(h:fD w gs bt gp N L inv mx M t rv sv T ps){s:Nat}(hs:s∈t.start):Real T s:=by
 have h1:=h.st.start s hs;have h2:=h.st.sound.len;have h3:=wM (T:=T) hs;exact⟨by omega,by have:=h.len;omega⟩
theorem fD.pat(h:fD w gs bt gp N L inv mx M t rv sv T ps){s:Nat}(hs:Real T s):uV w gp (s*8) (ps s).1 (ps s).2/\od M inv (af T s) (ps s).1:=by
 have h2:=h.st.sound.len;have hl:s<256+t.rules.length:=by have:=hs.1;omega
 exact⟨h.si.sp.pat hl hl hs,(h.si.sp.ej s hl hs).1⟩
theorem fD.nl(h:fD w gs bt gp N L inv mx M t rv sv T ps):uV w gp (10*8) (ps 10).1 (ps 10).2/\od M inv [10] (ps 10).1:=h.pat (s:=10) ⟨by omega,by show([10]:List Nat).length<=_;decide⟩
end
theorem cZ.Nl{M:MP}{inv:Bool}{x:List Nat}{p:oM}(h:cZ M inv x p)(hn:p.nl≠0):p.tail<=p.len:=by
 rw[h.tail hn,h.len];have:=lp x [];simpa using this
theorem Cc(M:MP)(Y:List Nat):decide ((aR M Y).cL<(aR M Y).pos) = !decide (aH Y=[]):=by
 have h:=PQ M Y;by_cases hr:aH Y=[]
 ·rw[decide_eq_true hr,decide_eq_false (fun hc=>(h.1 hc) hr)];rfl
 ·rw[decide_eq_false hr,decide_eq_true (h.2 hr)];rfl
theorem Tt{M:MP}{inv:Bool}{p:oM}(h:cZ M inv [10] p){X:List Nat}(hr:aH X≠[]):ou M inv (ax X)+dh inv p (aR M X).set=ou M inv (jA X):=by
 rw[Ng h,gx,fU,mD,if_neg hr];rfl
theorem Eo{T:List (List Nat)}{l:List Nat}{q s:Nat}(hs:l[q]?=some s):(l.take (q+1)).flatMap (af T)=(l.take q).flatMap (af T)++af T s:=by
 rw[List.take_add_one,hs,List.flatMap_append];simp
theorem take_len(T:List (List Nat))(l:List Nat)(q:Nat):((l.take q).flatMap (af T)).length<=(l.flatMap (af T)).length:=by
 have:((l.take q).flatMap (af T))++((l.drop q).flatMap (af T))=l.flatMap (af T):=by rw[<-List.flatMap_append,List.take_append_drop]
 rw[<-this,List.length_append];omega
theorem LN(M:MP)(Y:List Nat)(h:Y.length<=1099511627776):(aR M Y).pos<=1099511627776/\(aR M Y).cL<=1099511627776/\(aR M Y).lines<=1099511627776:=by
 have:=me Y;unfold aR;exact⟨h,by simp only[];omega,by simp only[];omega⟩
theorem LO{w:World}{gs bt gp N L:Nat}{inv:Bool}{mx:Int}{M:MP}{t:TT}{rv sv:Value}{T:List (List Nat)}{ps:C7}(h:fD w gs bt gp N L inv mx M t rv sv T ps)(P0:-9223372036854775808<=mx)(sZ:mx<=9223372036854775807):
 Calls Tryz.prog 41 #[.pointer (some ⟨gs,0,none⟩)] w fun e w'=>e=.returned (.int .i64 (uE mx (ou M inv (jA (t.start.flatMap (af T))))))/\Kept [] w w':=by
 have hH:Hid (fD _ _ _ _ _ _ _ _ _ _ _ _ _ _):=h;obtain⟨sa,sn,sc,Cb⟩:=bp h.si.sp.tr.start;have hsn:sn=t.start.length:=by
  rcases h.si.sp.tr.start.2 with⟨h1,h2⟩|⟨g,cap,_,h1,_⟩
  ·rw[Cb]at h1;simp at h1;omega
  ·rw[Cb]at h1;simp at h1;omega
 subst hsn;have XN:=h.st.WE;have s0:w.cell? ⟨gs,0,none⟩=some (.pointer (some ⟨bt,0,none⟩)):=h.si.s.cell 0;have s1:w.cell? ⟨gs,1,none⟩=some (UV M.cL):=h.si.s.cell 1;have s3:w.cell? ⟨gs,3,none⟩=some (.int .i64 mx):=h.si.s.cell 3;have t3:w.cell? ⟨bt,3,none⟩=some (.slice sa t.start.length sc):=by have:=h.si.sp.tr.cell 3;rw[Cb]at this;exact this
 have XO:=h.si.s.lt;have lbt:=h.si.sp.tr.aD.lt;have fI:Hid (∀(q s:Nat),t.start[q]?=some s->∃g,sa=some ⟨g,0,none⟩/\w.cell? ⟨g,q,none⟩=some (.int .i64 (s:Int))/\g<w.heap.size):=fun q s hs=>by
  have hq:=(List.getElem?_eq_some_iff.1 hs).1;obtain⟨g,cap,hv⟩:=aO h.si.sp.tr.start (by omega);have hc:(aF t.start)[q]?=some (.int .i64 (s:Int)):=by unfold aF;rw[List.getElem?_map,hs];rfl
  have h3:=h.si.sp.tr.start.cells (g:=g) (by rw[hv];rfl) q _ hc;rw[cK]at h3;rw[Cb]at hv;simp only[Value.slice.injEq]at hv;exact⟨g,hv.1,h3,(h.si.sp.tr.start.lt g (by rw[Cb,hv.1];rfl)).2⟩
 have dy:Hid (ah (w.alloc (.cells #[.int .i64 0,.int .i64 0,.int .i64 0,UV M.cL] 143)) w.heap.size (qq (aR M [])) 143/\Kept [] w (w.alloc (.cells #[.int .i64 0,.int .i64 0,.int .i64 0,UV M.cL] 143))):=⟨ah.new w _ _,(Kept.refl [] w).alloc _⟩;have En:=h.len;have wN:Hid (∀q,((t.start.take q).flatMap (af T)).length<=1099511627776):=fun q=>Nat.le_trans (take_len T t.start q) En;clear h Cb;generalize ZD:M.cL=BG at *;have hBGH:Hid (M.cL=BG):=ZD;clear ZD;go_enter Tryz.func41,Tryz.ntmps41
 go_wp2_with fail
 go_loopw [3,5] (fun cv iv wr=>∃q:Nat,cv=.int .i64 (ou M inv (ax ((t.start.take q).flatMap (af T))):Int)/\iv=.int .i64 (q:Int)/\q<=t.start.length/\ah wr w.heap.size (qq (aR M ((t.start.take q).flatMap (af T)))) 143/\Kept [] w wr) (fun _ iv _=>((t.start.length:Int)-intOf iv).toNat)
 case atStart=>exact⟨0,rfl,rfl,Nat.zero_le _,dy.out.1,dy.out.2⟩
 case round=>
  obtain⟨q,rfl,rfl,hq,hB,hK⟩:=hrel;clear dy;have s0':=(hK.cell XO 0).trans s0;have s3':=(hK.cell XO 3).trans s3;have t3':=(hK.cell lbt 3).trans t3;have Gs:Hid (ah _ _ _ _):=hB;have Cx:Hid (Kept _ _ _):=hK;obtain⟨b0,b1,b2,b3,bl⟩:=zx hB;have lwr:=hK.size;have hYb:=wN.out q;have N2:ou M inv (ax ((t.start.take q).flatMap (af T)))<=1099511627776:=by
   have:=Ly M inv (ax ((t.start.take q).flatMap (af T)));have:=me ((t.start.take q).flatMap (af T));omega
  obtain⟨d1,d2,d3⟩:=LN M _ hYb;by_cases bO:(q:Int)<(t.start.length:Int)
  ·obtain⟨s,hs⟩:∃s,t.start[q]?=some s:=⟨_,List.getElem?_eq_getElem (by omega)⟩;obtain⟨g,rfl,c1,lg⟩:=fI.out q s hs;have c1':=(hK.cell lg q).trans c1;have iz:=hH.out.real (List.mem_of_getElem? hs);have hR:=hH.out.kept hK;obtain⟨qU,Dk⟩:=hR.pat iz;have yx:Hid (∀w',Kept [] wr w'->Calls _ _ _ w' _):=fun w' k=>wH ((hR.kept k).si) (j:=s) (by have:=iz.1;have:=hR.st.sound.len;omega);have C3:Hid (∀w',Kept [] wr w'->Calls _ _ _ w' _):=fun w' k=>iH (gs:=gs) (aR M ((t.start.take q).flatMap (af T))).set ((hR.kept k).si.Wv) (qU.kept k);have IQ:Hid (∀w',Kept [] wr w'->Calls _ _ _ w' _):=fun w' k=>y8 (qU.kept k) (aR M ((t.start.take q).flatMap (af T))) (fun hn=>Dk.ok.Nl hn) d1 d2 d3;have e1:=Ng Dk.ok ((t.start.take q).flatMap (af T));have e2:=Tl Dk.ok ((t.start.take q).flatMap (af T));rw[<-Eo hs]at e1 e2;rw[e2]at IQ;have hcb2:ou M inv (ax ((t.start.take (q+1)).flatMap (af T)))<=1099511627776:=by
    have:=Ly M inv (ax ((t.start.take (q+1)).flatMap (af T)));have:=me ((t.start.take (q+1)).flatMap (af T));have:=wN.out (q+1);omega
   clear hB hK hR qU Dk iz hs hH fI s0 s1 s3 t3 c1 e2 wN;generalize Dy:aR M ((t.start.take (q+1)).flatMap (af T))=P2 at *;have hP2H:Hid (_=P2):=Dy;clear Dy;generalize Wn:ou M inv (ax ((t.start.take (q+1)).flatMap (af T)))=C2 at *;have hC2H:Hid (_=C2):=Wn;clear Wn;generalize aR M ((t.start.take q).flatMap (af T))=P1 at *;generalize ou M inv (ax ((t.start.take q).flatMap (af T)))=C1 at *;generalize dh inv (ps s).1 P1.set=EN at *;have e1i:(C1:Int)+(EN:Int)=(C2:Int):=by omega
   have e1H:Hid ((C1:Int)+(EN:Int)=(C2:Int)):=e1i;have hEb:EN<=1099511627776:=by omega
   clear e1 e1i;unfold qq at IQ;go_wp2_with (first
    | (go_at_call 77;refine(yx.out _ (Kept.refl _ _)).mono ?_;rintro _ _ ⟨rfl,rfl⟩)
    | (go_at_call 78;refine(C3.out _ (Kept.refl _ _)).mono ?_;rintro _ _ ⟨rfl,rfl⟩)
    | (go_at_call 79;refine(IQ.out _ (Kept.refl _ _)).mono ?_;rintro _ w5 ⟨rfl,k5⟩;have B5:Hid (ah w5 _ _ _):=Gs.out.kept k5 (by simp);have K5:Hid (Kept [] w w5):=Cx.out.trans k5;obtain⟨g0,g1,g2,g3,gl⟩:=zx B5.out;obtain⟨f0,f1,f2,f3⟩:=BS B5.out))
   refine⟨⟨q+1,by rw[hC2H.out,e1H.out],by go_num,by omega,?_,?_⟩,?_⟩
   ·rw[hP2H.out];exact res4 B5.out _ _ _ _
   ·exact(((K5.out.setCell (Or.inr (by simp)) _).setCell (Or.inr (by simp)) _).setCell (Or.inr (by simp)) _).setCell (Or.inr (by simp)) _
   ·simp only[intOf];omega
  ·have p':q=t.start.length:=by omega
   subst p';rw[List.take_length]at Gs b0 b1 b2 b3 hYb N2 d1 d2 d3 ⊢;have hR:=hH.out.kept hK;obtain⟨qU,Dk⟩:=hR.nl;have yx:Hid (∀w',Kept [] wr w'->Calls _ _ _ w' _):=fun w' k=>wH ((hR.kept k).si) (j:=10) (by omega);have C3:Hid (∀w',Kept [] wr w'->Calls _ _ _ w' _):=fun w' k=>iH (gs:=gs) (aR M (t.start.flatMap (af T))).set ((hR.kept k).si.Wv) (qU.kept k);have IS:Hid (∀w',Calls _ _ _ w' _):=fun w'=>wI w' (aR M (t.start.flatMap (af T)));rw[Cc]at IS;have hle:=BO inv (ps 10).1 (aR M (t.start.flatMap (af T))).set;have V1:=qU.bd.inside;have Tu:Hid (aH (t.start.flatMap (af T))≠[]->ou M inv (ax (t.start.flatMap (af T)))+dh inv (ps 10).1 (aR M (t.start.flatMap (af T))).set=ou M inv (jA (t.start.flatMap (af T)))):=Tt Dk.ok;have qJ:Hid (aH (t.start.flatMap (af T))=[]->ou M inv (ax (t.start.flatMap (af T)))=ou M inv (jA (t.start.flatMap (af T)))):=fun hr=>by rw[mD,if_pos hr,List.append_nil]
   clear hB hK hR qU Dk hH fI s0 s1 s3 t3 wN;generalize hX:t.start.flatMap (af T)=X at *;have wW:Hid (t.start.flatMap (af T)=X):=hX;clear hX;generalize aR M X=P1 at *;generalize ou M inv (ax X)=C1 at *;generalize hCL:ou M inv (jA X)=CL at *;have P3:Hid (ou M inv (jA X)=CL):=hCL;clear hCL;generalize dh inv (ps 10).1 P1.set=EN at *;by_cases hr:aH X=[]
   ·have e:=qJ.out hr;rw[decide_eq_true hr]at IS;clear qJ Tu yx C3 hr hle V1;subst e;have Ww:Hid (∀w',Kept [] w w'->((0<mx/\mx<(C1:Int))->uE mx C1=mx)/\(¬(0<mx/\mx<(C1:Int))->uE mx C1=(C1:Int))):=fun _ _=>⟨fun h=>if_pos h,fun h=>if_neg h⟩;by_cases hm:0<mx
    ·by_cases QI:mx<(C1:Int)
     ·have e:Hid (uE mx C1=mx):=if_pos ⟨hm,QI⟩;clear Ww;go_wp2_with (go_at_call 80;refine(IS.out _).mono ?_;rintro _ w5 ⟨rfl,k5⟩;have K5:Hid (Kept [] w w5):=Cx.out.trans k5;have s3q:=(k5.cell (by omega) 3).trans s3')
      go_ret;exact⟨by rw[wW.out,P3.out,e.out];rfl,K5.out⟩
     ·have e:Hid (uE mx C1=(C1:Int)):=if_neg (fun h=>QI h.2);clear Ww;go_wp2_with (go_at_call 80;refine(IS.out _).mono ?_;rintro _ w5 ⟨rfl,k5⟩;have K5:Hid (Kept [] w w5):=Cx.out.trans k5;have s3q:=(k5.cell (by omega) 3).trans s3')
      go_ret;exact⟨by rw[wW.out,P3.out,e.out];rfl,K5.out⟩
    ·have e:Hid (uE mx C1=(C1:Int)):=if_neg (fun h=>hm h.1);clear Ww;go_wp2_with (go_at_call 80;refine(IS.out _).mono ?_;rintro _ w5 ⟨rfl,k5⟩;have K5:Hid (Kept [] w w5):=Cx.out.trans k5;have s3q:=(k5.cell (by omega) 3).trans s3')
     go_ret;exact⟨by rw[wW.out,P3.out,e.out];rfl,K5.out⟩
   ·have e:=Tu.out hr;have ei:(C1:Int)+(EN:Int)=(CL:Int):=by omega
    have eH:Hid ((C1:Int)+(EN:Int)=(CL:Int)):=ei;have hEb:EN<=1099511627777:=by omega
    rw[decide_eq_false hr]at IS;clear qJ Tu hr hle V1 e ei;by_cases hm:0<mx
    ·by_cases QI:mx<(C1:Int)+(EN:Int)
     ·have e:Hid (uE mx CL=mx):=if_pos ⟨hm,by rw[<-eH.out];exact QI⟩;go_wp2_with (first
       | (go_at_call 80;refine(IS.out _).mono ?_;rintro _ w5 ⟨rfl,k5⟩;have K5:Hid (Kept [] w w5):=Cx.out.trans k5;have s3q:=(k5.cell (by omega) 3).trans s3';have b3q:=(k5.cell bl 3).trans b3;have LP:Hid (Kept [] wr w5):=k5)
       | (go_at_call 77;refine(yx.out _ LP.out).mono ?_;rintro _ _ ⟨rfl,rfl⟩)
       | (go_at_call 78;refine(C3.out _ LP.out).mono ?_;rintro _ _ ⟨rfl,rfl⟩))
      go_ret;exact⟨by rw[wW.out,P3.out,e.out];rfl,K5.out⟩
     ·have e:Hid (uE mx CL=(C1:Int)+(EN:Int)):=by show uE _ _=_;rw[eH.out];exact if_neg (fun h=>QI (by rw[eH.out];exact h.2))
      go_wp2_with (first
       | (go_at_call 80;refine(IS.out _).mono ?_;rintro _ w5 ⟨rfl,k5⟩;have K5:Hid (Kept [] w w5):=Cx.out.trans k5;have s3q:=(k5.cell (by omega) 3).trans s3';have b3q:=(k5.cell bl 3).trans b3;have LP:Hid (Kept [] wr w5):=k5)
       | (go_at_call 77;refine(yx.out _ LP.out).mono ?_;rintro _ _ ⟨rfl,rfl⟩)
       | (go_at_call 78;refine(C3.out _ LP.out).mono ?_;rintro _ _ ⟨rfl,rfl⟩))
      go_ret;exact⟨by rw[wW.out,P3.out,e.out];rfl,K5.out⟩
    ·have e:Hid (uE mx CL=(C1:Int)+(EN:Int)):=by show uE _ _=_;rw[eH.out];exact if_neg (fun h=>hm h.1)
     go_wp2_with (first
      | (go_at_call 80;refine(IS.out _).mono ?_;rintro _ w5 ⟨rfl,k5⟩;have K5:Hid (Kept [] w w5):=Cx.out.trans k5;have s3q:=(k5.cell (by omega) 3).trans s3';have b3q:=(k5.cell bl 3).trans b3;have LP:Hid (Kept [] wr w5):=k5)
      | (go_at_call 77;refine(yx.out _ LP.out).mono ?_;rintro _ _ ⟨rfl,rfl⟩)
      | (go_at_call 78;refine(C3.out _ LP.out).mono ?_;rintro _ _ ⟨rfl,rfl⟩))
     go_ret;exact⟨by rw[wW.out,P3.out,e.out];rfl,K5.out⟩
end Go.Proofs.YtgifhgnccmnbiabGreatDoor
namespace Go.Proofs.YtgifhgnccmnbiabGreatDoor
structure FL where
 num:Nat
 zA:Nat
 xb:Nat
def dW:List (List Nat)->Nat
 | []=>0
 | l :: ls=>l.length+1+dW ls
theorem IT:∀a b:List (List Nat),dW (a++b)=dW a+dW b
 | [],b=>by simp[dW]
 | l :: a,b=>by rw[List.cons_append,dW,dW,IT a b];omega
def lu(sel:List Nat->Bool):Nat->Nat->List (List Nat)->List FL
 | _,_,[]=>[]
 | off,k,l :: ls=>if sel l=true then ⟨k+1,off,off+l.length⟩ :: lu sel (off+l.length+1) (k+1) ls else lu sel (off+l.length+1) (k+1) ls
theorem Cd(sel:List Nat->Bool):∀(a b:List (List Nat)) (off k:Nat),lu sel off k (a++b)=lu sel off k a++lu sel (off+dW a) (k+a.length) b
 | [],b,off,k=>by simp[lu,dW]
 | l :: a,b,off,k=>by
   rw[List.cons_append,lu,lu,Cd sel a b];have e1:off+l.length+1+dW a=off+dW (l :: a):=by rw[dW];omega
   have e2:k+1+a.length=k+(l :: a).length:=by simp;omega
   rw[e1,e2];split
   ·rfl
   ·rfl
theorem pK(sel:List Nat->Bool):∀(a:List (List Nat)) (off k:Nat),(lu sel off k a).length=(a.filter sel).length
 | [],_,_=>rfl
 | l :: a,off,k=>by
   rw[lu,List.filter_cons];split
   ·rw[List.length_cons,List.length_cons,pK sel a]
   ·exact pK sel a _ _
theorem IU(sel:List Nat->Bool):∀(a:List (List Nat)) (off k:Nat) (x:FL),x∈lu sel off k a->k<x.num/\x.num<=k+a.length/\off<=x.zA/\x.zA<=x.xb/\x.xb+1<=off+dW a
 | [],_,_,x,h=>by simp[lu]at h
 | l :: a,off,k,x,h=>by
   rw[lu]at h;have key:x∈lu sel (off+l.length+1) (k+1) a->k<x.num/\x.num<=k+(l :: a).length/\off<=x.zA/\x.zA<=x.xb/\x.xb+1<=off+dW (l :: a):=fun h=>by
    obtain⟨h1,h2,h3,h4,h5⟩:=IU sel a _ _ x h;rw[dW,List.length_cons];omega
   split at h
   ·rcases List.mem_cons.1 h with h|h
    ·subst h;rw[dW,List.length_cons];simp only[];omega
    ·exact key h
   ·exact key h
def jf(M:MP)(inv:Bool)(Y:List Nat):List FL:=lu (qQ M inv) 0 0 (ax Y)
theorem wO:∀(X u:List Nat),dW (fv u X).1+(fv u X).2.length=u.length+X.length
 | [],u=>by simp[eW,dW]
 | c :: X,u=>by
   by_cases h:c=10
   ·subst h;rw[fU];have:=wO X [];simp only[dW,List.length_nil,List.length_cons]at this ⊢;omega
   ·rw[pF h];have:=wO X (u++[c]);simp at this ⊢;omega
theorem Nn(M:MP)(Y:List Nat):(aR M Y).cL=dW (ax Y):=by
 have:=wO Y [];unfold aR ax aH;simp only[]at this ⊢;simp at this;omega
theorem wP(M:MP)(inv:Bool)(Y x:List Nat):jf M inv (Y++x)=jf M inv Y++lu (qQ M inv) (aR M Y).cL (aR M Y).lines (fv (aH Y) x).1:=by
 unfold jf;rw[gx,Cd,Nn,Nat.zero_add,Nat.zero_add];rfl
theorem Tv{M:MP}{inv:Bool}{x:List Nat}{p:oM}(h:cZ M inv x p)(Y:List Nat):(jf M inv (Y++x)).length=(jf M inv Y).length+dh inv p (aR M Y).set:=by
 have he:=h.ends (aH Y);have e:dh inv p (aR M Y).set=((fv (aH Y) x).1.filter (qQ M inv)).length:=he;rw[wP,List.length_append,pK,e]
theorem Tw{M:MP}{inv:Bool}{x:List Nat}{p:oM}(h:cZ M inv x p)(Y:List Nat)(h0:dh inv p (aR M Y).set=0):jf M inv (Y++x)=jf M inv Y:=by
 have hl:=Tv h Y;rw[wP]at hl ⊢;rw[List.length_append,h0]at hl;rw[List.eq_nil_of_length_eq_zero (by omega:(lu (qQ M inv) (aR M Y).cL (aR M Y).lines (fv (aH Y) x).1).length=0),List.append_nil]
theorem wQ(M:MP)(inv:Bool)(Y x:List Nat)(most:Nat)(h:most<=(jf M inv Y).length):(jf M inv (Y++x)).take most=(jf M inv Y).take most:=by
 rw[wP,List.take_append_of_le_length h]
theorem Tx{M:MP}{inv:Bool}(Y x:List Nat)(h:(fv [] x).1=[]):jf M inv (Y++x)=jf M inv Y:=by
 rw[wP,jB,if_pos h];simp[lu]
theorem ZK{M:MP}{inv:Bool}{Y:List Nat}(h:qQ M inv (aH Y)=true):jf M inv (Y++[10])=jf M inv Y++[⟨(aR M Y).lines+1,(aR M Y).cL,(aR M Y).pos⟩]:=by
 rw[wP,fU,eW];simp only[lu,if_pos h];have h1:=Nn M Y;have h2:=BQ Y;have e:(aR M Y).cL+(aH Y).length=(aR M Y).pos:=by unfold aR;simp only[];omega
 rw[e]
theorem WG{M:MP}{inv:Bool}{p:oM}(h:cZ M inv [10] p)(Y:List Nat)(h0:dh inv p (aR M Y).set≠0):qQ M inv (aH Y)=true:=by
 have he:=h.ends (aH Y);rw[fU,eW,IE]at he;by_cases hs:qQ M inv (aH Y)=true
 ·exact hs
 ·rw[if_neg hs]at he;exact absurd (show dh inv p (aR M Y).set=0 from he) h0
def FV(M:MP)(inv:Bool)(X:List Nat):List FL:=lu (qQ M inv) 0 0 (jA X)
theorem Ce(M:MP)(inv:Bool)(X:List Nat):FV M inv X=if aH X=[] then jf M inv X else jf M inv (X++[10]):=by
 unfold FV jf;rw[mD];by_cases h:aH X=[]
 ·rw[if_pos h,if_pos h,List.append_nil]
 ·rw[if_neg h,if_neg h,gx,fU,eW]
theorem No(M:MP)(inv:Bool)(X:List Nat):(FV M inv X).length=ou M inv (jA X):=pK _ _ _ _
theorem Cf(M:MP)(inv:Bool)(Y:List Nat):(jf M inv Y).length<=Y.length:=by
 unfold jf;rw[pK];exact Nat.le_trans (List.length_filter_le _ _) (me Y)
theorem IY(M:MP)(inv:Bool)(Y Z:List Nat)(most:Nat)(h:most<=(jf M inv Y).length):(FV M inv (Y++Z)).take most=(jf M inv Y).take most:=by
 rw[Ce];split
 ·exact wQ M inv Y Z most h
 ·rw[List.append_assoc];exact wQ M inv Y _ most h
end Go.Proofs.YtgifhgnccmnbiabGreatDoor
namespace Go.Proofs.YtgifhgnccmnbiabGreatDoor
open Go.RowKit Go.IntWalk
def dI(l:List FL):List Value:=l.flatMap fun x=>[.int .i64 (x.num:Int),.int .i64 (x.zA:Int),.int .i64 (x.xb:Int)]
theorem FW(l:List FL)(x:FL):dI (l++[x])=dI l++[.int .i64 (x.num:Int),.int .i64 (x.zA:Int),.int .i64 (x.xb:Int)]:=by simp[dI]
theorem Ty:(Tryz.prog.info? 109).map (fun i=>(i.zero,i.size,i.bytes))=some (some (.agg #[.int .i64 0,.int .i64 0,.int .i64 0]),3,24):=by kernel_rfl
def wR(gs:Nat)(most:Nat)(h:QX)(v:Value):Array Value:=#[.pointer (some ⟨gs,0,none⟩),.int .i64 (most:Int),.int .i64 (h.pos:Int),.int .i64 (h.cL:Int),.int .i64 (h.lines:Int),UV h.set,v]
structure dA (w0 w:World)(F gs most:Nat)(h:QX)(l:List FL):Prop where
 k:Kept [] w0 w
 ge:w0.heap.size<=F
 ex:∃a n c,ah w F (wR gs most h (.slice a n c)) 173/\w.ownsRow (F+1) 109 3 (.slice a n c) l.length (dI l)
theorem dA.kept{w0 w w':World}{F gs most:Nat}{h:QX}{l:List FL}(hI:dA w0 w F gs most h l)(k:Kept [] w w'):dA w0 w' F gs most h l:=by
 obtain⟨a,n,c,h1,h2⟩:=hI.ex;exact⟨hI.k.trans k,hI.ge,a,n,c,h1.kept k (by simp),aQ h2 k (fun _ _=>by simp)⟩
theorem FZ{w:World}{B:Nat}{a:Option Addr}{n c:Nat}{l:List FL}(h:w.ownsRow B 109 3 (.slice a n c) l.length (dI l)):n=l.length:=by
 rcases h.2 with⟨h1,h2⟩|⟨g,cap,_,h1,_⟩
 ·simp at h1;omega
 ·simp at h1;omega
theorem all7{w:World}{g:Nat}{c0 c1 c2 c3 c4 c5 c6:Value}{t:TypeId}(h:ah w g #[c0,c1,c2,c3,c4,c5,c6] t):
 w.cell? ⟨g,0,none⟩=some c0/\w.cell? ⟨g,1,none⟩=some c1/\w.cell? ⟨g,2,none⟩=some c2/\w.cell? ⟨g,3,none⟩=some c3/\w.cell? ⟨g,4,none⟩=some c4/\w.cell? ⟨g,5,none⟩=some c5/\w.cell? ⟨g,6,none⟩=some c6/\g<w.heap.size:=
 ⟨h.cell 0,h.cell 1,h.cell 2,h.cell 3,h.cell 4,h.cell 5,h.cell 6,h.lt⟩
theorem dA.here{w0 w:World}{F gs most:Nat}{h h':QX}{l:List FL}(hI:dA w0 w F gs most h l):
 dA w0 ((((w.setCell ⟨F,2,none⟩ (.int .i64 (h'.pos:Int))).setCell ⟨F,3,none⟩ (.int .i64 (h'.cL:Int))).setCell ⟨F,4,none⟩ (.int .i64 (h'.lines:Int))).setCell ⟨F,5,none⟩ (UV h'.set)) F gs most h' l:=by
 obtain⟨a,n,c,h1,h2⟩:=hI.ex;have hg:=hI.ge;unfold wR at h1;have s2:ah _ F #[.pointer (some ⟨gs,0,none⟩),.int .i64 (most:Int),.int .i64 (h'.pos:Int),.int .i64 (h.cL:Int),.int .i64 (h.lines:Int),UV h.set,.slice a n c] _:=h1.set 2 (.int .i64 (h'.pos:Int));have s3:ah _ F #[.pointer (some ⟨gs,0,none⟩),.int .i64 (most:Int),.int .i64 (h'.pos:Int),.int .i64 (h'.cL:Int),.int .i64 (h.lines:Int),UV h.set,.slice a n c] _:=s2.set 3 (.int .i64 (h'.cL:Int));have s4:ah _ F #[.pointer (some ⟨gs,0,none⟩),.int .i64 (most:Int),.int .i64 (h'.pos:Int),.int .i64 (h'.cL:Int),.int .i64 (h'.lines:Int),UV h.set,.slice a n c] _:=s3.set 4 (.int .i64 (h'.lines:Int));have s5:ah _ F #[.pointer (some ⟨gs,0,none⟩),.int .i64 (most:Int),.int .i64 (h'.pos:Int),.int .i64 (h'.cL:Int),.int .i64 (h'.lines:Int),UV h'.set,.slice a n c] _:=s4.set 5 (UV h'.set);have q:Kept [F] w ((((w.setCell ⟨F,2,none⟩ (.int .i64 (h'.pos:Int))).setCell ⟨F,3,none⟩ (.int .i64 (h'.cL:Int))).setCell ⟨F,4,none⟩ (.int .i64 (h'.lines:Int))).setCell ⟨F,5,none⟩ (UV h'.set)):=
  ((((Kept.refl [F] w).setCell (Or.inl (by simp)) _).setCell (Or.inl (by simp)) _).setCell (Or.inl (by simp)) _).setCell (Or.inl (by simp)) _
 exact⟨hI.k.cf q hg,hg,a,n,c,s5,aQ h2 q (fun g Xg=>by have:=(h2.lt g Xg).1;simp;omega)⟩
structure jP (F:Nat)(w w':World):Prop where
 st:∀k cs e,k≠F->e≠109->ah w k cs e->ah w' k cs e
 size:w.heap.size<=w'.heap.size
theorem jP.trans{F:Nat}{a b c:World}(h:jP F a b)(g:jP F b c):jP F a c:=⟨fun k cs e h1 h2 h3=>g.st k cs e h1 h2 (h.st k cs e h1 h2 h3),Nat.le_trans h.size g.size⟩
theorem Kept.Tz{F:Nat}{w w':World}(k:Kept [F] w w'):jP F w w':=⟨fun i cs e h1 _ h3=>h3.kept k (by simpa using h1),k.size⟩
theorem Kept.uH{F:Nat}{w w':World}(k:Kept [] w w'):jP F w w':=(k.mono (S':=[F]) (by simp)).Tz
theorem dA.TC{w0 w:World}{F gs most:Nat}{h h':QX}{l:List FL}(hI:dA w0 w F gs most h l):
 dA w0 ((((w.setCell ⟨F,2,none⟩ (.int .i64 (h'.pos:Int))).setCell ⟨F,3,none⟩ (.int .i64 (h'.cL:Int))).setCell ⟨F,4,none⟩ (.int .i64 (h'.lines:Int))).setCell ⟨F,5,none⟩ (UV h'.set)) F gs most h' l /\
 jP F w ((((w.setCell ⟨F,2,none⟩ (.int .i64 (h'.pos:Int))).setCell ⟨F,3,none⟩ (.int .i64 (h'.cL:Int))).setCell ⟨F,4,none⟩ (.int .i64 (h'.lines:Int))).setCell ⟨F,5,none⟩ (UV h'.set)):=
 ⟨hI.here,((((((Kept.refl [F] w).setCell (Or.inl (by simp)) _).setCell (Or.inl (by simp)) _).setCell (Or.inl (by simp)) _).setCell (Or.inl (by simp)) _:Kept [F] w _)).Tz⟩
theorem dA.push{w0 w w1:World}{F gs most:Nat}{h:QX}{l:List FL}{x:FL}{a:Option Addr}{n c:Nat}(hI:dA w0 w F gs most h l)(hb:ah w F (wR gs most h (.slice a n c)) 173)(hr:w.ownsRow (F+1) 109 3 (.slice a n c) l.length (dI l))(x1:World)(kx:Kept [] w x1){g cap:Nat}
 (aG:w1.ownsRow (F+1) 109 3 (.slice (some ⟨g,0,none⟩) (l.length+1) cap) (l.length+1) (dI l++[.int .i64 (x.num:Int),.int .i64 (x.zA:Int),.int .i64 (x.xb:Int)])) (ay:x1.grownBy w1 (Value.slice a n c).ownBlock):
 w1.cell? ⟨F,6,none⟩=some (.slice a n c)/\w1.frozen? ⟨F,6,none⟩=false/\F<w1.heap.size/\dA w0 (w1.setCell ⟨F,6,none⟩ (.slice (some ⟨g,0,none⟩) (l.length+1) cap)) F gs most h (l++[x])/\jP F w (w1.setCell ⟨F,6,none⟩ (.slice (some ⟨g,0,none⟩) (l.length+1) cap)):=by
 have hg:=hI.ge;have fx:∀k,(Value.slice a n c).ownBlock=some k->F<k:=fun k hk=>by have:=(hr.lt k hk).1;omega
 have bl:∀k,k<w.heap.size->(Value.slice a n c).ownBlock≠some k->w1.heap[k]?=w.heap[k]?:=fun k hk hn=>by
  rw[ay.block k (Nat.lt_of_lt_of_le hk kx.size) (fun hc=>hn hc.symm),kx.block k hk (by simp)]
 have ck:ah w1 F (wR gs most h (.slice a n c)) 173:=(bl F hb.lt (fun hc=>by have:=fx F hc;omega)).trans hb;have k1:Kept [] w0 w1:=⟨ay.os.trans (kx.os.trans hI.k.os),ay.tape.trans (kx.tape.trans hI.k.tape),ay.output.trans (kx.output.trans hI.k.output),Nat.le_trans hI.k.size (Nat.le_trans kx.size ay.size),fun i hi _=>by
  have h1:=hI.k.size;rw[bl i (by omega) (fun hc=>by have:=fx i hc;omega)];exact hI.k.block i hi (by simp)⟩
 have s6:ah (w1.setCell ⟨F,6,none⟩ (.slice (some ⟨g,0,none⟩) (l.length+1) cap)) F (wR gs most h (.slice (some ⟨g,0,none⟩) (l.length+1) cap)) 173:=ck.set 6 _;have q:Kept [F] w1 (w1.setCell ⟨F,6,none⟩ (.slice (some ⟨g,0,none⟩) (l.length+1) cap)):=(Kept.refl [F] w1).setCell (Or.inl (by simp)) _;refine⟨ck.cell 6,ck.frozen 6,ck.lt,⟨k1.cf q hg,hg,_,_,_,s6,?_⟩,jP.trans ⟨fun k cs e h1 h2 h3=>(bl k h3.lt (fun hc=>?_)).trans h3,Nat.le_trans kx.size ay.size⟩ q.Tz⟩
 ·rw[FW,List.length_append];exact aQ aG q (fun k hk=>by have:=(aG.lt k hk).1;simp;omega)
 ·rcases hr.2 with⟨hn,_⟩|⟨g',qM,cur,hv,_,h4,_⟩
  ·rw[hn]at hc;cases hc
  ·rw[hv]at hc;simp only[Value.ownBlock,Option.some.injEq]at hc;subst hc;have h5:some (Obj.cells cur 109 (0,0))=some (Obj.cells cs e (0,0)):=h4.symm.trans h3;simp only[Option.some.injEq,Obj.cells.injEq]at h5;exact h2 h5.2.1.symm
theorem tn{w w':World}(e:w'.heap=w.heap)(g j:Nat):w'.cell? ⟨g,j,none⟩=w.cell? ⟨g,j,none⟩:=by
 unfold World.cell?;simp only[];rw[e]
theorem WH{w:World}{gs gp n:Nat}(c4:w.cell? ⟨gs,4,none⟩=some (.slice (some ⟨gp,0,none⟩) n n)){j:Nat}(hn:j<n):
 Calls Tryz.prog 77 #[.pointer (some ⟨gs,0,none⟩),.int .i64 (j:Int)] w fun e w'=>e=.returned (.pointer (some ⟨gp,j*8,none⟩))/\w'=w:=by
 have hj:(j:Int)<(n:Int):=by omega
 have Vp:(0:Int)<=(j:Int):=by omega
 go_enter Tryz.func77,Tryz.ntmps77
 go_wp2
 go_ret;exact⟨rfl,rfl⟩
section
variable {w0:World}{F gs bt gp N L most:Nat}{inv:Bool}{mx:Int}{M:MP}{t:TT}{rv sv:Value}{T:List (List Nat)}{ps:C7}
def BdY(T:List (List Nat))(Y:List Nat)(s:Nat):Prop:=Y.length<=1099511627776/\(256<=s->(Y++af T s).length<=1099511627776)
def TD(w0:World)(F gs most:Nat)(inv:Bool)(M:MP)(T:List (List Nat))(s:Nat):Prop:=
 ∀(w:World) (Y:List Nat),dA w0 w F gs most (aR M Y) ((jf M inv Y).take most)->Real T s->BdY T Y s ->
  Calls Tryz.prog 100 #[.pointer (some ⟨F,0,none⟩),.int .i64 (s:Int)] w fun e w'=>e=.returned (.tuple #[])/\dA w0 w' F gs most (aR M (Y++af T s)) ((jf M inv (Y++af T s)).take most)/\jP F w w'
def Looks(w0:World)(F gs most:Nat)(inv:Bool)(M:MP)(T:List (List Nat))(ps:C7)(s:Nat):Prop:=
 ∀(w:World) (Y:List Nat),dA w0 w F gs most (aR M Y) ((jf M inv Y).take most)->Real T s->BdY T Y s->dh inv (ps s).1 (aR M Y).set≠0->(jf M inv Y).length<most ->
  Calls Tryz.prog 146 #[.pointer (some ⟨F,0,none⟩),.int .i64 (s:Int)] w fun e w'=>e=.returned (.tuple #[])/\(∃h,dA w0 w' F gs most h ((jf M inv (Y++af T s)).take most))/\jP F w w'
theorem P7(hR:fD w0 gs bt gp N L inv mx M t rv sv T ps){s:Nat}(hs:s<256):Looks w0 F gs most inv M T ps s:=by
 intro w Y hI iz hlen pL wC;have uF:af T s=[s]:=if_pos hs;have Dk:=(hR.pat iz).2.ok;rw[uF]at Dk;have hs10:s=10:=by
  apply Classical.byContradiction;intro hn;apply pL;have:(ps s).1.nl=0:=by rw[Dk.nl,FM hn];rfl
  exact if_pos this
 subst hs10;have sl:=WG Dk Y pL;have hfl:=ZK sl;rw[uF,hfl];have hY:Y.length<=1099511627776:=hlen.1;obtain⟨d1,d2,d3⟩:=LN M Y hY;have AS:=Cf M inv Y;have e1:(jf M inv Y).take most=jf M inv Y:=List.take_of_length_le (by omega);have e2:(jf M inv Y++[(⟨(aR M Y).lines+1,(aR M Y).cL,(aR M Y).pos⟩:FL)]).take most=jf M inv Y++[⟨(aR M Y).lines+1,(aR M Y).cL,(aR M Y).pos⟩]:=List.take_of_length_le (by simp;omega);rw[e1]at hI;rw[e2];clear e1 e2 hfl sl Dk pL hR iz uF hlen;generalize aR M Y=P at *;generalize jf M inv Y=FY at *;obtain⟨a,n,c,hb,b8⟩:=hI.ex;have hn:=FZ b8;subst hn;obtain⟨i0,kQ,jh,dP,dB⟩:=info_parts Ty;have cC:Hid (dA _ _ _ _ _ _ _):=hI;have iI:Hid (ah _ _ _ _):=hb;have ug:Hid (World.ownsRow _ _ _ _ _ _ _):=b8;obtain⟨c0,c1,c2,c3,c4,c5,c6,cl⟩:=all7 (show ah w F #[.pointer (some ⟨gs,0,none⟩),.int .i64 (most:Int),.int .i64 (P.pos:Int),.int .i64 (P.cL:Int),.int .i64 (P.lines:Int),UV P.set,.slice a FY.length c] 173 from hb);have mb:FY.length+1<=maxLen:=by unfold maxLen;omega
 have mb2:(FY.length+1)*24<=140737488355328:=by omega
 clear hI hb b8;go_enter Tryz.func146,Tryz.ntmps146
 go_wp2_with fail
 go_region
 all_goals
  obtain⟨W1,qR⟩:∃W1,W1=(w.alloc (.cells #[.int .i64 ((P.lines:Int)+1),.int .i64 (P.cL:Int),.int .i64 (P.pos:Int)] 109)).drew:=⟨_,rfl⟩;have K1:Hid (Kept [] w W1):=by show Kept _ _ _;rw[qR];exact((Kept.refl [] w).alloc _).drew
  have B1:ah W1 w.heap.size #[.int .i64 ((P.lines:Int)+1),.int .i64 (P.cL:Int),.int .i64 (P.pos:Int)] 109:=by rw[qR];exact(ah.new w _ _).drew
  rw[<-qR];clear qR;have g0:W1.cell? ⟨w.heap.size,0,none⟩=some (.int .i64 ((P.lines:Int)+1)):=B1.cell 0;have g1:W1.cell? ⟨w.heap.size,1,none⟩=some (.int .i64 (P.cL:Int)):=B1.cell 1;have g2:W1.cell? ⟨w.heap.size,2,none⟩=some (.int .i64 (P.pos:Int)):=B1.cell 2;have gl:=B1.lt;have Zz:=(K1.out.cell cl 6).trans c6;have cl':F<W1.heap.size:=Nat.lt_of_lt_of_le cl K1.out.size;have own:∀o,(W1.alloc o).ownsRow (F+1) 109 3 (.slice a FY.length c) FY.length (dI FY):=fun o=>aQ ug.out (K1.out.alloc o) (fun _ _=>by simp);have up:∀o,F+1<=(W1.alloc o).heap.size:=fun o=>by simp;omega
  have kW:Hid (∀o,Kept [] w (W1.alloc o).drew):=fun o=>(K1.out.alloc o).drew;clear B1 c0 c1 c2 c3 c4 c5 c6;go_wp2_with fail
  go_region_law (refine cF rfl (.tmp 30) (.tmp 32) 106 rfl 109 i0 _ 3 24 Tryz.underlying106 kQ jh dP dB rfl (by decide) (F+1) (.slice a FY.length c) FY.length (dI FY) (by simp[Act.eval,Act.put]) (by exact own _) ⟨W1.heap.size,0,none⟩ 1 1 [.int .i64 ((P.lines:Int)+1),.int .i64 (P.cL:Int),.int .i64 (P.pos:Int)] (by simp[Act.eval,Act.put]) rfl (by exact bM _ _ _ _ (by simp)) (by simp[Value.oneCell']) mb mb2 (by exact up _) ?_;intro v' w4 aG ay;obtain⟨g,cap,rfl⟩:=aO aG (by omega);obtain⟨e2,f2,b2,hF,GG⟩:=dA.push (x:=⟨P.lines+1,P.cL,P.pos⟩) cC.out iI.out ug.out _ (kW.out _) aG ay;have SU:Hid (dA _ _ _ _ _ _ _):=hF;have hStH:Hid (jP _ _ _):=GG;clear hF GG aG ay)
  all_goals
   go_wp2
   exact bodyPost_ret (results_none rfl _ _ _) rfl ⟨rfl,⟨P,SU.out⟩,hStH.out⟩
theorem P8(hR:fD w0 gs bt gp N L inv mx M t rv sv T ps){s:Nat}(hs:256<=s)(ih:∀s',s'<s->TD w0 F gs most inv M T s'):Looks w0 F gs most inv M T ps s:=by
 intro w Y hI iz hlen pL wC;have hSl:=hR.st.sound.len;have wv:=hR.st.WD;obtain⟨x,hx⟩:∃x,t.rules[s-256]?=some x:=⟨_,List.getElem?_eq_getElem (by have:=iz.1;omega)⟩;obtain⟨x1,x2,x3,x4⟩:=hR.st.sound.uy _ _ hx;have uF:af T s=af T x.l++af T x.r:=by
  rw[<-x3];unfold af;rw[if_neg (by omega)]
 have An:dT t.rules (s:Int)=x:=by
  unfold dT;rw[if_pos (by omega),show((s:Int)-256).toNat=s-256 by omega,hx];rfl
 have OS:(af T s).length=(af T x.l).length+(af T x.r).length:=by rw[uF,List.length_append]
 have rl:Real T x.l:=⟨by have:=iz.1;omega,by have:=iz.2;omega⟩;have rr:Real T x.r:=⟨by have:=iz.1;omega,by have:=iz.2;omega⟩;have TE:=hlen.2 (by omega);have ZL:(Y++af T x.l).length<=1099511627776:=by rw[List.length_append]at TE ⊢;omega
 have hyl:BdY T Y x.l:=⟨hlen.1,fun _=>ZL⟩;have hyr:BdY T (Y++af T x.l) x.r:=⟨ZL,fun _=>by rw[List.append_assoc,<-uF];exact TE⟩;have D8:Hid (∀w',Kept [] w0 w'->Calls Tryz.prog 144 #[.pointer (some ⟨bt,0,none⟩),.int .i64 (s:Int)] w' fun e w2=>e=.returned (.agg #[.int .i64 (x.l:Int),.int .i64 (x.r:Int),.int .i64 (x.pt.len:Int),.int .i64 (x.pt.nl:Int),.int .i64 (x.pt.first:Int),.int .i64 (x.pt.last:Int)])/\Kept [] w' w2):=fun w' q=>by
  have:=th ((hR.kept q).si.sp.tr) s (by have:=iz.1;omega) (by omega);rw[An]at this;exact this
 have pM:Hid (∀w',dA w0 w' F gs most (aR M Y) ((jf M inv Y).take most)->Calls _ _ _ w' _):=fun w' h=>ih x.l (by omega) w' Y h rl hyl;have KF:Hid (∀w',dA w0 w' F gs most (aR M (Y++af T x.l)) ((jf M inv (Y++af T x.l)).take most)->Calls _ _ _ w' _):=fun w' h=>ih x.r (by omega) w' (Y++af T x.l) h rr hyr;have yx:Hid (∀w4,Kept [] w0 w4->∀w',w'.heap=w4.heap->Calls _ _ _ w' _):=fun w4 q w' e=>WH (gs:=gs) (gp:=gp) (n:=256+t.rules.length) (j:=x.r) ((tn e gs 4).trans ((hR.kept q).si.s.cell 4)) (by have:=rr.1;omega);have hpr:Hid (∀w',Kept [] w0 w'->uV w' gp (x.r*8) (ps x.r).1 (ps x.r).2):=fun w' q=>((hR.kept q).pat rr).1;have qJ:Hid ((ps x.r).1.nl=0->jf M inv (Y++af T s)=jf M inv (Y++af T x.l)):=fun h0=>by
  rw[uF,<-List.append_assoc];exact Tx _ _ (((hR.pat rr).2.ok.zero h0).1)
 have XP:Y++af T s=Y++af T x.l++af T x.r:=by rw[uF,List.append_assoc]
 have s0:w0.cell? ⟨gs,0,none⟩=some (.pointer (some ⟨bt,0,none⟩)):=hR.si.s.cell 0;have XO:=hR.si.s.lt;have hs0H:Hid (∀w',Kept [] w0 w'->w'.cell? ⟨gs,0,none⟩=some (.pointer (some ⟨bt,0,none⟩))):=fun w' q=>(q.cell XO 0).trans s0;have qX:Hid (Y++af T s=Y++af T x.l++af T x.r):=XP;have hFge:=hI.ge;have cC:Hid (dA _ _ _ _ _ _ _):=hI;have hsn:¬(s:Int)<256:=by omega
 obtain⟨a,n,c,hb,b8⟩:=hI.ex;have c0:w.cell? ⟨F,0,none⟩=some (.pointer (some ⟨gs,0,none⟩)):=hb.cell 0;have cl:=hb.lt;have s0w:=hs0H.out w hI.k;have lgsw:gs<w.heap.size:=Nat.lt_of_lt_of_le XO hI.k.size;clear hI hb b8 ih hR iz hlen pL wC hx x1 x2 x3 x4 uF An OS rl rr hyl hyr ZL TE XP s0 hSl hs;obtain⟨xl,xr,⟨p1,p2,p3,p4⟩⟩:=x;simp only[]at *;go_enter Tryz.func146,Tryz.ntmps146
 go_wp2_with fail
 refine(D8.out _ cC.out.k).mono ?_;rintro e w2 ⟨rfl,k2⟩;have I3:Hid (dA w0 (w2.alloc (.cells #[.int .i64 (xl:Int),.int .i64 (xr:Int),.int .i64 (p1:Int),.int .i64 (p2:Int),.int .i64 (p3:Int),.int .i64 (p4:Int)] 221)) F gs most _ _):=cC.out.kept (k2.alloc _);have B3:Hid (ah (w2.alloc (.cells #[.int .i64 (xl:Int),.int .i64 (xr:Int),.int .i64 (p1:Int),.int .i64 (p2:Int),.int .i64 (p3:Int),.int .i64 (p4:Int)] 221)) w2.heap.size _ _):=ah.new w2 _ _;have fx:F≠w2.heap.size:=by have:=k2.size;omega
 have S3:Hid (jP F w (w2.alloc (.cells #[.int .i64 (xl:Int),.int .i64 (xr:Int),.int .i64 (p1:Int),.int .i64 (p2:Int),.int .i64 (p3:Int),.int .i64 (p4:Int)] 221))):=(k2.alloc _).uH;clear k2 cC c0 s0w;go_wp2_with fail
 refine(pM.out _ I3.out).mono ?_;rintro e w4 ⟨rfl,hI4,hS4⟩;have B4:ah w4 w2.heap.size #[.int .i64 (xl:Int),.int .i64 (xr:Int),.int .i64 (p1:Int),.int .i64 (p2:Int),.int .i64 (p3:Int),.int .i64 (p4:Int)] 221:=hS4.st _ _ _ (Ne.symm fx) (by decide) B3.out;have d1:w4.cell? ⟨w2.heap.size,1,none⟩=some (.int .i64 (xr:Int)):=B4.cell 1;have dl:=B4.lt;have S4:Hid (jP F w w4):=S3.out.trans hS4;have I4:Hid (dA w0 w4 F gs most _ _):=hI4;obtain⟨a4,n4,c4,Ou,_⟩:=hI4.ex;have z0:w4.cell? ⟨F,0,none⟩=some (.pointer (some ⟨gs,0,none⟩)):=Ou.cell 0;have zl:=Ou.lt;have hp4:=hpr.out w4 hI4.k;have z1:=hp4.c1;have zl2:=hp4.lt;have hnlb:=hp4.bd.nl;have hpc4:Hid (∀w',w'.heap=w4.heap->Calls _ _ _ w' _):=yx.out w4 I4.out.k;clear B4 Ou hI4 hS4 S3 I3 B3 hp4 pM yx;by_cases h0:(ps xr).1.nl=0
 ·have hn:=qJ.out h0;rw[h0]at z1;have nP:Hid (_=_):=hn;clear hn h0 qJ KF;go_wp2_with fail
  go_quiet (first | (go_at_call 77;exact Calls.quiet_of_same (hpc4.out _ rfl)))
  go_wp2
  go_end0;exact⟨rfl,⟨_,by rw[nP.out];exact I4.out.kept ((Kept.refl [] w4).drewN _)⟩,S4.out.trans ((Kept.refl [] w4).drewN _).uH⟩
 ·have zu:(0:Int)<((ps xr).1.nl:Int):=by omega
  clear h0 qJ;generalize (ps xr).1.nl=PN at *;go_wp2_with fail
  go_quiet (first | (go_at_call 77;exact Calls.quiet_of_same (hpc4.out _ rfl)))
  go_wp2_with fail
  refine(KF.out _ (I4.out.kept ((Kept.refl [] w4).drewN _))).mono ?_;rintro e w6 ⟨rfl,nE,P9⟩;have I6:Hid (dA w0 w6 F gs most _ _):=nE;have S6:Hid (jP F w w6):=S4.out.trans (((Kept.refl [] w4).drewN _).uH.trans P9);clear nE P9 S4 I4;go_wp2
  go_end0;exact⟨rfl,⟨_,by rw[qX.out];exact I6.out⟩,S6.out⟩
theorem uV.heap{w w':World}{g o:Nat}{p:oM}{a:Option Addr}(h:uV w g o p a)(e:w'.heap=w.heap):uV w' g o p a:=
 ⟨fun j hj=>(tn e g (o+j)).trans (h.cell j hj),fun hn=>by
  obtain⟨G,O,e1,h1,h2⟩:=h.bP hn;exact⟨G,O,e1,fun i hi=>(tn e G (O+i)).trans (h1 i hi),by rw[e];exact h2⟩,h.bd,by rw[e];exact h.lt⟩
theorem IZ(hR:fD w0 gs bt gp N L inv mx M t rv sv T ps){s:Nat}(hl:Looks w0 F gs most inv M T ps s):TD w0 F gs most inv M T s:=by
 intro w Y hI iz hlen;obtain⟨WI,Dk⟩:=hR.pat iz;have hY:Y.length<=1099511627776:=hlen.1;obtain⟨d1,d2,d3⟩:=LN M Y hY;have e2:=Tl Dk.ok Y;have yx:Hid (Calls _ _ _ w _):=wH ((hR.kept hI.k).si) (j:=s) (by have:=iz.1;have:=hR.st.sound.len;omega);have IQ:Hid (Calls _ _ _ w _):=y8 (WI.kept hI.k) (aR M Y) (fun hn=>Dk.ok.Nl hn) d1 d2 d3;rw[e2]at IQ;have C3:Hid (∀w5,Kept [] w0 w5->∀w',w'.heap=w5.heap->Calls _ _ _ w' _):=fun w5 q w' e=>iH (gs:=gs) (aR M Y).set ((tn e gs 2).trans ((hR.kept q).si.Wv)) ((WI.kept q).heap e);have hlo:Hid (∀w',dA w0 w' F gs most (aR M Y) ((jf M inv Y).take most)->dh inv (ps s).1 (aR M Y).set≠0->(jf M inv Y).length<most->Calls _ _ _ w' _):=fun w' h h1 h2=>hl w' Y h iz hlen h1 h2;have qJ:Hid (dh inv (ps s).1 (aR M Y).set=0->(jf M inv (Y++af T s)).take most=(jf M inv Y).take most):=fun h0=>by rw[Tw Dk.ok Y h0]
 have D9:Hid (most<=(jf M inv Y).length->(jf M inv (Y++af T s)).take most=(jf M inv Y).take most):=fun h0=>wQ M inv Y _ most h0;have hle:=BO inv (ps s).1 (aR M Y).set;have V1:=WI.bd.inside;have AS:=Cf M inv Y;have Lo:((jf M inv Y).take most).length=min most (jf M inv Y).length:=List.length_take;have hFge:=hI.ge;have cC:Hid (dA _ _ _ _ _ _ _):=hI;obtain⟨a,n,c,hb,b8⟩:=hI.ex;have hn:=FZ b8;obtain⟨c0,c1,c2,c3,c4,c5,c6,cl⟩:=all7 (show ah w F #[.pointer (some ⟨gs,0,none⟩),.int .i64 (most:Int),.int .i64 ((aR M Y).pos:Int),.int .i64 ((aR M Y).cL:Int),.int .i64 ((aR M Y).lines:Int),UV (aR M Y).set,.slice a n c] 173 from hb);clear hI hb b8 hR hl WI Dk iz hlen e2 hY;generalize jf M inv (Y++af T s)=F2 at *;generalize aR M (Y++af T s)=P2 at *;generalize jf M inv Y=F1 at *;generalize aR M Y=P1 at *;generalize dh inv (ps s).1 P1.set=EN at *;rw[Lo]at hn;unfold qq at IQ;go_enter Tryz.func100,Tryz.ntmps100
 go_wp2_with fail
 refine yx.out.mono ?_;rintro _ w1 ⟨rfl,h1⟩;have h1':=h1.symm;subst h1';go_wp2_with fail
 refine IQ.out.mono ?_;rintro _ w5 ⟨rfl,k5⟩;obtain⟨W,hW⟩:∃W,W=w5.alloc (.cells #[.int .i64 (P2.pos:Int),.int .i64 (P2.cL:Int),.int .i64 (P2.lines:Int),UV P2.set] 143):=⟨_,rfl⟩;have IW:Hid (dA w0 W F gs most P1 (F1.take most)):=by
  show dA _ _ _ _ _ _ _;rw[hW];exact cC.out.kept (k5.alloc _)
 have SW:Hid (jP F w W):=by
  show jP _ _ _;rw[hW];exact(k5.alloc _).uH
 have BW:ah W w5.heap.size #[.int .i64 (P2.pos:Int),.int .i64 (P2.cL:Int),.int .i64 (P2.lines:Int),UV P2.set] 143:=by rw[hW];exact ah.new w5 _ _
 have kW:Kept [] w W:=by rw[hW];exact k5.alloc _
 have fx:F≠w5.heap.size:=by have:=k5.size;omega
 have hne':w5.heap.size≠F:=Ne.symm fx;have q0:=(kW.cell cl 0).trans c0;have q1:=(kW.cell cl 1).trans c1;have q2:=(kW.cell cl 2).trans c2;have q3:=(kW.cell cl 3).trans c3;have q4:=(kW.cell cl 4).trans c4;have q5:=(kW.cell cl 5).trans c5;have q6:=(kW.cell cl 6).trans c6;have ql:F<W.heap.size:=Nat.lt_of_lt_of_le cl kW.size;have r0:W.cell? ⟨w5.heap.size,0,none⟩=some (.int .i64 (P2.pos:Int)):=BW.cell 0;have r1:W.cell? ⟨w5.heap.size,1,none⟩=some (.int .i64 (P2.cL:Int)):=BW.cell 1;have r2:W.cell? ⟨w5.heap.size,2,none⟩=some (.int .i64 (P2.lines:Int)):=BW.cell 2;have r3:W.cell? ⟨w5.heap.size,3,none⟩=some (UV P2.set):=BW.cell 3;have rl:=BW.lt;have BH:Hid (ah _ _ _ _):=BW;have fz:∀j,W.frozen? ⟨F,j,none⟩=false:=fun j=>by obtain⟨_,_,_,hb,_⟩:=IW.out.ex;exact hb.frozen j
 clear c0 c1 c2 c3 c4 c5 c6 cl kW k5 BW cC yx IQ;go_wp2_with fail
 rw[<-hW];clear hW;generalize w5.heap.size=g at *;go_quiet (first | (go_at_call 78;exact Calls.quiet_of_same (C3.out W IW.out.k _ rfl)))
 go_wp2_with fail
 by_cases h0:0<EN
 ·have hd0:decide (0<EN)=true:=decide_eq_true h0;by_cases h1:F1.length<most
  ·have sW:n=F1.length:=by omega
   have hd1:decide (n<most)=true:=decide_eq_true (by omega);have CF:Hid (∀w',dA w0 w' F gs most P1 (F1.take most)->Calls _ _ _ w' _):=fun w' h=>hlo.out w' h (by omega) h1;clear qJ D9 hlo C3 h1 sW hn Lo AS h0;go_quiet (fail)
   go_wp2_with fail
   refine(CF.out _ (IW.out.kept ((Kept.refl [] W).drewN _))).mono ?_;rintro e w6 ⟨rfl,⟨h6,nE⟩,P9⟩;have B6:ah w6 g _ _:=P9.st _ _ _ hne' (by decide) (BH.out.kept ((Kept.refl [] W).drewN _) (by simp));have r0:w6.cell? ⟨g,0,none⟩=some (.int .i64 (P2.pos:Int)):=B6.cell 0;have r1:w6.cell? ⟨g,1,none⟩=some (.int .i64 (P2.cL:Int)):=B6.cell 1;have r2:w6.cell? ⟨g,2,none⟩=some (.int .i64 (P2.lines:Int)):=B6.cell 2;have r3:w6.cell? ⟨g,3,none⟩=some (UV P2.set):=B6.cell 3;have rl:=B6.lt;have fz:(∀j,w6.frozen? ⟨F,j,none⟩=false)/\F<w6.heap.size/\(∃v,w6.cell? ⟨F,2,none⟩=some v)/\(∃v,w6.cell? ⟨F,3,none⟩=some v)/\(∃v,w6.cell? ⟨F,4,none⟩=some v)/\(∃v,w6.cell? ⟨F,5,none⟩=some v):=by obtain⟨_,_,_,hb,_⟩:=nE.ex;exact⟨fun j=>hb.frozen j,hb.lt,⟨_,hb.cell 2⟩,⟨_,hb.cell 3⟩,⟨_,hb.cell 4⟩,⟨_,hb.cell 5⟩⟩
   obtain⟨fz,fl,⟨v2,f2⟩,⟨v3,f3⟩,⟨v4,f4⟩,⟨v5,f5⟩⟩:=fz;have I6:Hid (dA _ _ _ _ _ _ _):=nE;have S6:Hid (jP F w w6):=SW.out.trans (((Kept.refl [] W).drewN _).uH.trans P9);clear nE P9 B6 IW SW CF q0 q1 q2 q3 q4 q5 q6 ql;go_wp2
   go_end0;obtain⟨z1,z2⟩:=dA.TC (h':=P2) I6.out;exact⟨rfl,z1,S6.out.trans z2⟩
  ·have hd1:decide (n<most)=false:=decide_eq_false (by omega);have e2H:Hid (F2.take most=F1.take most):=D9.out (by omega);clear qJ D9 hlo C3 h0 h1 hn Lo AS;go_quiet (fail)
   go_wp2
   go_end0;obtain⟨z1,z2⟩:=dA.TC (h':=P2) (IW.out.kept ((Kept.refl [] W).drewN _));exact⟨rfl,by rw[e2H.out];exact z1,SW.out.trans (((Kept.refl [] W).drewN _).uH.trans z2)⟩
 ·have hd0:decide (0<EN)=false:=decide_eq_false h0;have e2H:Hid (F2.take most=F1.take most):=qJ.out (by omega);clear qJ D9 hlo C3 h0 hn Lo AS;go_quiet (fail)
  go_wp2
  go_end0;obtain⟨z1,z2⟩:=dA.TC (h':=P2) (IW.out.kept ((Kept.refl [] W).drewN _));exact⟨rfl,by rw[e2H.out];exact z1,SW.out.trans (((Kept.refl [] W).drewN _).uH.trans z2)⟩
theorem overs(hR:fD w0 gs bt gp N L inv mx M t rv sv T ps)(s:Nat):TD w0 F gs most inv M T s:=by
 induction s using Nat.strongRecOn with
 | _ s ih=>
   by_cases hs:s<256
   ·exact IZ hR (P7 hR hs)
   ·exact IZ hR (P8 hR (by omega) ih)
end
structure ZN (w w':World)(l:List FL)(v:Value):Prop where
 k:Kept [] w w'
 ex:∃a n c,v=.slice a n c/\w'.ownsRow (w.heap.size+1) 109 3 (.slice a n c) l.length (dI l)
theorem WJ{M:MP}{inv:Bool}{X Y Z:List Nat}(hX:X=Y++Z)(most:Nat)(h:Z=[]\/most<=(jf M inv Y).length):
 (aH Y=[]->(FV M inv X).take most=(jf M inv Y).take most)/\(aH Y≠[]->(FV M inv X).take most=(jf M inv (Y++[10])).take most):=by
 rcases h with h|h
 ·subst h;rw[List.append_nil]at hX;subst hX;exact⟨fun hr=>by rw[Ce,if_pos hr],fun hr=>by rw[Ce,if_neg hr]⟩
 ·subst hX;exact⟨fun _=>IY M inv Y Z most h,fun _=>by rw[IY M inv Y Z most h,wQ M inv Y _ most h]⟩
theorem dA.begin{w:World}{gs most:Nat}{M:MP}{inv:Bool}:
 dA w (w.alloc (.cells #[.pointer (some ⟨gs,0,none⟩),.int .i64 (most:Int),.int .i64 0,.int .i64 0,.int .i64 0,UV M.cL,.slice none 0 0] 173)) w.heap.size gs most (aR M []) ((jf M inv []).take most):=by
 have hb:ah _ w.heap.size #[.pointer (some ⟨gs,0,none⟩),.int .i64 (most:Int),.int .i64 0,.int .i64 0,.int .i64 0,UV M.cL,.slice none 0 0] 173:=(ah.new w #[.pointer (some ⟨gs,0,none⟩),.int .i64 (most:Int),.int .i64 0,.int .i64 0,.int .i64 0,UV M.cL,.slice none 0 0] 173);have e:(jf M inv []).take most=[]:=by simp[jf,ax,eW,lu]
 rw[e];exact⟨(Kept.refl [] w).alloc _,Nat.le_refl _,none,0,0,hb,⟨rfl,Or.inl ⟨rfl,rfl⟩⟩⟩
theorem P'{w:World}{gs bt gp N L:Nat}{inv:Bool}{mx:Int}{M:MP}{t:TT}{rv sv:Value}{T:List (List Nat)}{ps:C7}(h:fD w gs bt gp N L inv mx M t rv sv T ps)(most:Nat):
 Calls Tryz.prog 58 #[.pointer (some ⟨gs,0,none⟩),.int .i64 (most:Int)] w fun e w'=>∃v,e=.returned v/\ZN w w' ((FV M inv (t.start.flatMap (af T))).take most) v:=by
 have En:=h.len;have hov:Hid (∀(s:Nat) (w':World) (Y:List Nat),dA w w' w.heap.size gs most (aR M Y) ((jf M inv Y).take most)->Real T s->BdY T Y s->Calls _ _ _ w' _):=fun s w' Y h1 h2 h3=>overs (F:=w.heap.size) (most:=most) h s w' Y h1 h2 h3;have hH:Hid (fD _ _ _ _ _ _ _ _ _ _ _ _ _ _):=h;obtain⟨sa,sn,sc,Cb⟩:=bp h.si.sp.tr.start;have hsn:sn=t.start.length:=by
  rcases h.si.sp.tr.start.2 with⟨h1,h2⟩|⟨g,cap,_,h1,_⟩
  ·rw[Cb]at h1;simp at h1;omega
  ·rw[Cb]at h1;simp at h1;omega
 subst hsn;have XN:=h.st.WE;have s0:w.cell? ⟨gs,0,none⟩=some (.pointer (some ⟨bt,0,none⟩)):=h.si.s.cell 0;have s1:w.cell? ⟨gs,1,none⟩=some (UV M.cL):=h.si.s.cell 1;have t3:w.cell? ⟨bt,3,none⟩=some (.slice sa t.start.length sc):=by have:=h.si.sp.tr.cell 3;rw[Cb]at this;exact this
 have XO:=h.si.s.lt;have lbt:=h.si.sp.tr.aD.lt;have fI:Hid (∀(q s:Nat),t.start[q]?=some s->∃g,sa=some ⟨g,0,none⟩/\w.cell? ⟨g,q,none⟩=some (.int .i64 (s:Int))/\g<w.heap.size):=fun q s hs=>by
  have hq:=(List.getElem?_eq_some_iff.1 hs).1;obtain⟨g,cap,hv⟩:=aO h.si.sp.tr.start (by omega);have hc:(aF t.start)[q]?=some (.int .i64 (s:Int)):=by unfold aF;rw[List.getElem?_map,hs];rfl
  have h3:=h.si.sp.tr.start.cells (g:=g) (by rw[hv];rfl) q _ hc;rw[cK]at h3;rw[Cb]at hv;simp only[Value.slice.injEq]at hv;exact⟨g,hv.1,h3,(h.si.sp.tr.start.lt g (by rw[Cb,hv.1];rfl)).2⟩
 have dy:Hid (dA w _ w.heap.size gs most (aR M ((t.start.take 0).flatMap (af T))) ((jf M inv ((t.start.take 0).flatMap (af T))).take most)):=dA.begin;have wN:Hid (∀q,((t.start.take q).flatMap (af T)).length<=1099511627776):=fun q=>Nat.le_trans (take_len T t.start q) En;have HA:Hid (∀q,t.start.flatMap (af T)=(t.start.take q).flatMap (af T)++(t.start.drop q).flatMap (af T)):=fun q=>by rw[<-List.flatMap_append,List.take_append_drop]
 clear h Cb;generalize ZD:M.cL=BG at *;clear ZD;generalize hX:t.start.flatMap (af T)=X at *;have wW:Hid (_=X):=hX;clear hX;go_enter Tryz.func58,Tryz.ntmps58
 go_wp2_with fail
 go_loopw [6] (fun iv wr=>∃q:Nat,iv=.int .i64 (q:Int)/\q<=t.start.length/\dA w wr w.heap.size gs most (aR M ((t.start.take q).flatMap (af T))) ((jf M inv ((t.start.take q).flatMap (af T))).take most)) (fun iv _=>((t.start.length:Int)-intOf iv).toNat)
 case atStart=>exact⟨0,rfl,Nat.zero_le _,dy.out⟩
 case round=>
  obtain⟨q,rfl,hq,hI⟩:=hrel;clear dy;have cC:Hid (dA _ _ _ _ _ _ _):=hI;have lwr:=hI.k.size;have s0':=(hI.k.cell XO 0).trans s0;have t3':=(hI.k.cell lbt 3).trans t3;have hYb:=wN.out q;have Lo:((jf M inv ((t.start.take q).flatMap (af T))).take most).length=min most (jf M inv ((t.start.take q).flatMap (af T))).length:=List.length_take;obtain⟨a,n,c,hb,b8⟩:=hI.ex;have hn:=FZ b8;rw[Lo]at hn;have c6:wr.cell? ⟨w.heap.size,6,none⟩=some (.slice a n c):=hb.cell 6;have cl:=hb.lt;have c2:wr.cell? ⟨w.heap.size,2,none⟩=some (.int .i64 ((aR M ((t.start.take q).flatMap (af T))).pos:Int)):=hb.cell 2;have c3:wr.cell? ⟨w.heap.size,3,none⟩=some (.int .i64 ((aR M ((t.start.take q).flatMap (af T))).cL:Int)):=hb.cell 3;have c4:wr.cell? ⟨w.heap.size,4,none⟩=some (.int .i64 ((aR M ((t.start.take q).flatMap (af T))).lines:Int)):=hb.cell 4;have c5:wr.cell? ⟨w.heap.size,5,none⟩=some (UV (aR M ((t.start.take q).flatMap (af T))).set):=hb.cell 5;clear hb hI;by_cases zN:q<t.start.length/\(jf M inv ((t.start.take q).flatMap (af T))).length<most
  ·obtain⟨bO,uQ⟩:=zN;obtain⟨s,hs⟩:∃s,t.start[q]?=some s:=⟨_,List.getElem?_eq_getElem (by omega)⟩;obtain⟨g,rfl,c1,lg⟩:=fI.out q s hs;have c1':=(cC.out.k.cell lg q).trans c1;have iz:=hH.out.real (List.mem_of_getElem? hs);have oz:=Eo (T:=T) hs;have hc:Hid (Calls _ _ _ wr _):=hov.out s wr _ cC.out iz ⟨hYb,fun _=>by rw[<-oz];exact wN.out (q+1)⟩;rw[<-oz]at hc;have sW:(n:Int)<(most:Int):=by omega
   have uU:decide (n<most)=true:=decide_eq_true (by omega);have MV:(q:Int)<(t.start.length:Int):=by omega
   clear b8 c2 c3 c4 c5 iz oz fI hov hH wN HA wW s0 s1 t3 c1 uQ Lo hn;go_wp2_with fail
   refine hc.out.mono ?_;rintro e w5 ⟨rfl,hI5,hS5⟩;have I5:Hid (dA _ _ _ _ _ _ _):=hI5;clear hI5 hS5;go_wp2
   exact⟨⟨q+1,by go_num,by omega,I5.out⟩,by simp only[intOf];omega⟩
  ·obtain⟨Z,hZ1,hZ2⟩:∃Z,X=(t.start.take q).flatMap (af T)++Z/\(Z=[]\/most<=(jf M inv ((t.start.take q).flatMap (af T))).length):=⟨(t.start.drop q).flatMap (af T),HA.out q,by
    by_cases bO:q<t.start.length
    ·exact Or.inr (by omega)
    ·left;rw[List.drop_of_length_le (by omega)];rfl⟩
   obtain⟨ho1,ho2⟩:=WJ (M:=M) (inv:=inv) hZ1 most hZ2;have hc:Hid (∀w',dA w w' _ _ _ _ _->Calls _ _ _ w' _):=fun w' hf=>hov.out 10 w' ((t.start.take q).flatMap (af T)) hf ⟨by omega,by show([10]:List Nat).length<=_;decide⟩ ⟨hYb,fun h=>by omega⟩;have IS:Hid (∀w',Calls _ _ _ w' _):=fun w'=>wI w' (aR M ((t.start.take q).flatMap (af T)));rw[Cc]at IS;have TF:¬q<t.start.length\/(q<t.start.length/\decide (n<most)=false):=by
    by_cases bO:q<t.start.length
    ·exact Or.inr ⟨bO,decide_eq_false (by omega)⟩
    ·exact Or.inl bO
   have TG:af T 10=[10]:=if_pos (by decide);rw[TG]at hc;have hIH2:Hid (dA _ _ _ _ _ _ _):=cC.out;have dZ:Hid (World.ownsRow wr (w.heap.size+1) 109 3 (.slice a n c) ((jf M inv ((t.start.take q).flatMap (af T))).take most).length (dI ((jf M inv ((t.start.take q).flatMap (af T))).take most))):=b8;clear b8 hZ1 hZ2 fI hov hH wN HA wW s0 s1 t3 Lo hn zN TG En XN;generalize aR M ((t.start.take q).flatMap (af T))=P1 at *;by_cases hr:aH ((t.start.take q).flatMap (af T))=[]
   ·have e:Hid (_=_):=ho1 hr;rw[decide_eq_true hr]at IS;clear ho1 ho2 hr hc;rcases TF with hg|⟨hg,QH⟩
    ·have MV:¬(q:Int)<(t.start.length:Int):=by omega
     go_wp2_with (go_at_call 80;refine(IS.out _).mono ?_;rintro _ w5 ⟨rfl,k5⟩;have I5:Hid (dA w w5 w.heap.size gs most _ _):=cC.out.kept k5;have c6q:=(k5.cell cl 6).trans c6;have LP:Hid (Kept [] wr w5):=k5;clear k5)
     go_ret;exact⟨_,rfl,⟨I5.out.k,a,n,c,rfl,by rw[e.out];exact aQ dZ.out LP.out (fun _ _=>by simp)⟩⟩
    ·have MV:(q:Int)<(t.start.length:Int):=by omega
     go_wp2_with (go_at_call 80;refine(IS.out _).mono ?_;rintro _ w5 ⟨rfl,k5⟩;have I5:Hid (dA w w5 w.heap.size gs most _ _):=cC.out.kept k5;have c6q:=(k5.cell cl 6).trans c6;have LP:Hid (Kept [] wr w5):=k5;clear k5)
     go_ret;exact⟨_,rfl,⟨I5.out.k,a,n,c,rfl,by rw[e.out];exact aQ dZ.out LP.out (fun _ _=>by simp)⟩⟩
   ·have e:Hid (_=_):=ho2 hr;rw[decide_eq_false hr]at IS;clear ho1 ho2 hr dZ;rcases TF with hg|⟨hg,QH⟩
    ·have MV:¬(q:Int)<(t.start.length:Int):=by omega
     go_wp2_with (first
      | (go_at_call 80;refine(IS.out _).mono ?_;rintro _ w5 ⟨rfl,k5⟩;have I5:Hid (dA w w5 w.heap.size gs most _ _):=cC.out.kept k5;clear k5)
      | (go_at_call 100;refine(hc.out _ I5.out).mono ?_;rintro _ w6 ⟨rfl,nE,P9⟩;obtain⟨a6,n6,Zz,ud,hr6⟩:=nE.ex;have c6q:w6.cell? ⟨w.heap.size,6,none⟩=some (.slice a6 n6 Zz):=ud.cell 6;have cl6:=ud.lt;have I6:Hid (dA _ _ _ _ _ _ _):=nE;have R6:Hid (World.ownsRow _ _ _ _ _ _ _):=hr6;clear nE P9 ud hr6))
     go_ret;exact⟨_,rfl,⟨I6.out.k,a6,n6,Zz,rfl,by rw[e.out];exact R6.out⟩⟩
    ·have MV:(q:Int)<(t.start.length:Int):=by omega
     go_wp2_with (first
      | (go_at_call 80;refine(IS.out _).mono ?_;rintro _ w5 ⟨rfl,k5⟩;have I5:Hid (dA w w5 w.heap.size gs most _ _):=cC.out.kept k5;clear k5)
      | (go_at_call 100;refine(hc.out _ I5.out).mono ?_;rintro _ w6 ⟨rfl,nE,P9⟩;obtain⟨a6,n6,Zz,ud,hr6⟩:=nE.ex;have c6q:w6.cell? ⟨w.heap.size,6,none⟩=some (.slice a6 n6 Zz):=ud.cell 6;have cl6:=ud.lt;have I6:Hid (dA _ _ _ _ _ _ _):=nE;have R6:Hid (World.ownsRow _ _ _ _ _ _ _):=hr6;clear nE P9 ud hr6))
     go_ret;exact⟨_,rfl,⟨I6.out.k,a6,n6,Zz,rfl,by rw[e.out];exact R6.out⟩⟩
theorem nn{w0 w w':World}{v:Value}{e z n:Nat}{xs:List Value}(k:Kept [] w0 w)(h:w.ownsRow w0.heap.size e z v n xs)(g:w.grownBy w' v.ownBlock):Kept [] w0 w':=
 ⟨g.os.trans k.os,g.tape.trans k.tape,g.output.trans k.output,Nat.le_trans k.size g.size,fun i hi _=>(g.block i (Nat.lt_of_lt_of_le hi k.size) (fun hc=>by have:=(h.lt i hc.symm).1;omega)).trans (k.block i hi (by simp))⟩
end Go.Proofs.YtgifhgnccmnbiabGreatDoor
