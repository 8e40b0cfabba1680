/- Part of the proof. -/
import Derived.Test.YtgifhgnccmnbiabGreatDoorG04
import Derived.WalkSmall
import Derived.Laws.Rows
import Derived.Laws.Tables
import Derived.Deep.MidRow
set_option linter.unusedVariables false
set_option linter.unusedSimpArgs false
set_option maxHeartbeats 4000000
set_option maxRecDepth 100000
namespace Go.Proofs.YtgifhgnccmnbiabGreatDoor
abbrev aZ:=BitVec 64
theorem bD(x y:aZ)(i:Nat):(x|||y).getLsbD i=(x.getLsbD i || y.getLsbD i):=BitVec.getLsbD_or
theorem dp(x y:aZ)(i:Nat):(x&&&y).getLsbD i=(x.getLsbD i&&y.getLsbD i):=BitVec.getLsbD_and
theorem EU(x:aZ)(n i:Nat):(x <<< n).getLsbD i=(decide (i<64)&&!decide (i<n)&&x.getLsbD (i-n)):=BitVec.getLsbD_shiftLeft x n
structure GP where
 count:Nat:=0
 empty:Bool:=false
 first:aZ:=0#64
 last:aZ:=0#64
 next:Nat->aZ:=fun _=>0#64
 node:Nat->Nat:=fun _=>0
structure GP.Fit (p:GP):Prop where
 room:p.count<=60
 first:∀i,p.first.getLsbD i=true->i<p.count
 last:∀i,p.last.getLsbD i=true->i<p.count
 next:∀s i,(p.next s).getLsbD i=true->i<p.count
def GP.qV(p:GP):Nat->List Nat->Prop
 | s,[]=>p.last.getLsbD s=true
 | s,d :: r=>(p.next s).getLsbD d=true/\p.qV d r
def GP.Acc(p:GP):List Nat->Prop
 | []=>p.empty=true
 | d :: r=>p.first.getLsbD d=true/\p.qV d r
def GP.jq(p:GP)(u:List Nat):Prop:=∃l,p.Acc l/\u=l.map p.node
theorem GP.qV.lt{p:GP}(h:p.Fit):∀{s:Nat} {l:List Nat},p.qV s l->∀d,d∈l->d<p.count
 | _,[],_,d,hd=>by cases hd
 | _,e :: r,hr,d,hd=>by
   rcases List.mem_cons.1 hd with rfl|hd
   ·exact h.next _ _ hr.1
   ·exact GP.qV.lt h hr.2 d hd
theorem GP.Acc.lt{p:GP}(h:p.Fit){l:List Nat}(hl:p.Acc l):∀d,d∈l->d<p.count:=fun d hd=>by
 cases l with
 | nil=>cases hd
 | cons e r=>
   rcases List.mem_cons.1 hd with rfl|hd
   ·exact h.first _ hl.1
   ·exact GP.qV.lt h hl.2 d hd
def aL(a b:GP):GP where
 count:=a.count+b.count
 next:=fun s=>if a.count<=s/\s<a.count+b.count/\s<60 then b.next (s-a.count) <<< a.count else a.next s
 node:=fun s=>if a.count<=s/\s<a.count+b.count/\s<60 then b.node (s-a.count) else a.node s
def dY(a:GP)(fr dest:aZ):GP:={a with next:=fun s=>if s<60/\fr.getLsbD s=true then a.next s|||dest else a.next s}
def gd(a b:GP):GP:=
 dY { aL a b with
  empty:=a.empty&&b.empty
  first:=if a.empty=true then a.first|||b.first <<< a.count else a.first
  last:=if b.empty=true then b.last <<< a.count|||a.last else b.last <<< a.count} a.last (b.first <<< a.count)
def cG(a b:GP):GP:=
 { aL a b with
   empty:=a.empty || b.empty
   first:=a.first|||b.first <<< a.count
   last:=a.last|||b.last <<< a.count}
theorem kG(x:aZ)(n i:Nat)(hx:∀j,x.getLsbD j=true->j+n<64):(x <<< n).getLsbD i=true↔n<=i/\x.getLsbD (i-n)=true:=by
 rw[EU];simp only[Bool.and_eq_true,decide_eq_true_eq,Bool.not_eq_true',decide_eq_false_iff_not];constructor
 ·rintro⟨⟨_,h2⟩,h3⟩;exact⟨by omega,h3⟩
 ·rintro⟨h1,h2⟩;exact⟨⟨by have:=hx _ h2;omega,by omega⟩,h2⟩
section
variable {a b:GP}(ha:a.Fit)(hb:b.Fit)(hr:a.count+b.count<=60)
include ha hb hr
theorem tN{s d:Nat}(hs:s<a.count):((gd a b).next s).getLsbD d=true↔(a.next s).getLsbD d=true\/(a.last.getLsbD s=true/\a.count<=d/\b.first.getLsbD (d-a.count)=true):=by
 have _:=ha;simp only[gd,dY,aL];rw[if_neg (show ¬(a.count<=s/\s<a.count+b.count/\s<60) by omega)];split
 ·rename_i h
  rw[bD,Bool.or_eq_true,kG _ _ _ (fun j hj=>by have:=hb.first j hj;omega)];simp[h.2]
 ·rename_i h
  have:¬a.last.getLsbD s=true:=fun hc=>h ⟨by omega,hc⟩;simp[this]
theorem ry{s d:Nat}(hs:a.count<=s)(ji:s<a.count+b.count):((gd a b).next s).getLsbD d=true↔a.count<=d/\(b.next (s-a.count)).getLsbD (d-a.count)=true:=by
 simp only[gd,dY,aL];rw[if_pos (show(a.count<=s/\s<a.count+b.count/\s<60) by omega),if_neg,kG _ _ _ (fun j hj=>by have:=hb.next _ j hj;omega)];rintro⟨_,hc⟩;have:=ha.last s hc;omega
theorem xo{s:Nat}:(gd a b).last.getLsbD s=true↔(a.count<=s/\b.last.getLsbD (s-a.count)=true)\/(b.empty=true/\a.last.getLsbD s=true):=by
 have _:=ha;simp only[gd,dY];split
 ·rename_i h
  rw[bD,Bool.or_eq_true,kG _ _ _ (fun j hj=>by have:=hb.last j hj;omega)];simp[h]
 ·rename_i h
  rw[kG _ _ _ (fun j hj=>by have:=hb.last j hj;omega)];simp[h]
theorem Ap{s:Nat}:(gd a b).first.getLsbD s=true↔a.first.getLsbD s=true\/(a.empty=true/\a.count<=s/\b.first.getLsbD (s-a.count)=true):=by
 have _:=ha;simp only[gd,dY];split
 ·rename_i h
  rw[bD,Bool.or_eq_true,kG _ _ _ (fun j hj=>by have:=hb.first j hj;omega)];simp[h]
 ·rename_i h;simp[h]
theorem mr:∀(l:List Nat) (s:Nat),s<b.count->((gd a b).qV (s+a.count) l↔∃y,l=y.map (·+a.count)/\b.qV s y)
 | [],s,hs=>by
   simp only[GP.qV];rw[xo ha hb hr];constructor
   ·rintro(⟨_,h⟩|⟨_,h⟩)
    ·exact⟨[],rfl,by simpa [GP.qV] using h⟩
    ·have:=ha.last _ h;omega
   ·rintro⟨y,hy,h⟩;cases y with
    | nil=>exact Or.inl ⟨by omega,by simpa [GP.qV] using h⟩
    | cons=>simp at hy
 | d :: r,s,hs=>by
   simp only[GP.qV];rw[ry ha hb hr (by omega) (by omega)];rw[show s+a.count-a.count=s by omega];constructor
   ·rintro⟨⟨h1,h2⟩,h3⟩;obtain⟨e,rfl⟩:∃e,d=e+a.count:=⟨d-a.count,by omega⟩;rw[show e+a.count-a.count=e by omega]at h2;obtain⟨y,rfl,h4⟩:=(mr r e (hb.next _ _ h2)).1 h3;exact⟨e :: y,rfl,h2,h4⟩
   ·rintro⟨y,hy,h⟩;cases y with
    | nil=>simp at hy
    | cons e y=>
      simp only[List.map_cons,List.cons.injEq]at hy;obtain⟨rfl,rfl⟩:=hy;rw[show e+a.count-a.count=e by omega];exact⟨⟨by omega,h.1⟩,(mr _ e (hb.next _ _ h.1)).2 ⟨y,rfl,h.2⟩⟩
theorem vr:∀(l:List Nat) (s:Nat),s<a.count->((gd a b).qV s l↔∃x y,l=x++y.map (·+a.count)/\a.qV s x/\b.Acc y)
 | [],s,hs=>by
   simp only[GP.qV];rw[xo ha hb hr];constructor
   ·rintro(⟨h,_⟩|⟨h1,h2⟩)
    ·omega
    ·exact⟨[],[],rfl,h2,h1⟩
   ·rintro⟨x,y,he,h1,h2⟩;cases x with
    | cons=>simp at he
    | nil=>
      cases y with
      | cons=>simp at he
      | nil=>exact Or.inr ⟨h2,h1⟩
 | d :: r,s,hs=>by
   simp only[GP.qV];rw[tN ha hb hr hs];constructor
   ·rintro⟨h1|⟨h1,h2,h3⟩,h4⟩
    ·obtain⟨x,y,rfl,h5,h6⟩:=(vr r d (ha.next _ _ h1)).1 h4;exact⟨d :: x,y,rfl,⟨h1,h5⟩,h6⟩
    ·obtain⟨e,rfl⟩:∃e,d=e+a.count:=⟨d-a.count,by omega⟩;rw[show e+a.count-a.count=e by omega]at h3;obtain⟨y,rfl,h5⟩:=(mr ha hb hr r e (hb.first _ h3)).1 h4;exact⟨[],e :: y,rfl,h1,h3,h5⟩
   ·rintro⟨x,y,he,h1,h2⟩;cases x with
    | nil=>
      cases y with
      | nil=>simp at he
      | cons e y=>
        simp only[List.nil_append,List.map_cons,List.cons.injEq]at he;obtain⟨rfl,rfl⟩:=he;refine⟨Or.inr ⟨h1,by omega,?_⟩,(mr ha hb hr _ e (hb.first _ h2.1)).2 ⟨y,rfl,h2.2⟩⟩;rw[show e+a.count-a.count=e by omega];exact h2.1
    | cons e x=>
      simp only[List.cons_append,List.cons.injEq]at he;obtain⟨rfl,rfl⟩:=he;exact⟨Or.inl h1.1,(vr _ d (ha.next _ _ h1.1)).2 ⟨x,y,rfl,h1.2,h2⟩⟩
theorem Hg(l:List Nat):(gd a b).Acc l↔∃x y,l=x++y.map (·+a.count)/\a.Acc x/\b.Acc y:=by
 cases l with
 | nil=>
   simp only[GP.Acc];constructor
   ·intro h;simp only[gd,dY,Bool.and_eq_true]at h;exact⟨[],[],rfl,h.1,h.2⟩
   ·rintro⟨x,y,he,h1,h2⟩;cases x with
    | cons=>simp at he
    | nil=>
      cases y with
      | cons=>simp at he
      | nil=>simp only[gd,dY,Bool.and_eq_true];exact⟨h1,h2⟩
 | cons d r=>
   simp only[GP.Acc];rw[Ap ha hb hr];constructor
   ·rintro⟨h1|⟨h1,h2,h3⟩,h4⟩
    ·obtain⟨x,y,rfl,h5,h6⟩:=(vr ha hb hr r d (ha.first _ h1)).1 h4;exact⟨d :: x,y,rfl,⟨h1,h5⟩,h6⟩
    ·obtain⟨e,rfl⟩:∃e,d=e+a.count:=⟨d-a.count,by omega⟩;rw[show e+a.count-a.count=e by omega]at h3;obtain⟨y,rfl,h5⟩:=(mr ha hb hr r e (hb.first _ h3)).1 h4;exact⟨[],e :: y,rfl,h1,h3,h5⟩
   ·rintro⟨x,y,he,h1,h2⟩;cases x with
    | nil=>
      cases y with
      | nil=>simp at he
      | cons e y=>
        simp only[List.nil_append,List.map_cons,List.cons.injEq]at he;obtain⟨rfl,rfl⟩:=he;refine⟨Or.inr ⟨h1,by omega,?_⟩,(mr ha hb hr _ e (hb.first _ h2.1)).2 ⟨y,rfl,h2.2⟩⟩;rw[show e+a.count-a.count=e by omega];exact h2.1
    | cons e x=>
      simp only[List.cons_append,List.cons.injEq]at he;obtain⟨rfl,rfl⟩:=he;exact⟨Or.inl h1.1,(vr ha hb hr _ d (ha.first _ h1.1)).2 ⟨x,y,rfl,h1.2,h2⟩⟩
omit hb in
theorem jr(x:List Nat)(hx:∀d,d∈x->d<a.count):x.map (aL a b).node=x.map a.node:=by
 have _:=ha;have _:=hr;refine List.map_congr_left fun d hd=>?_;have:=hx d hd;simp only[aL];rw[if_neg (by omega)]
omit ha in
theorem iJ(y:List Nat)(hy:∀d,d∈y->d<b.count):(y.map (·+a.count)).map (aL a b).node=y.map b.node:=by
 have _:=hb;rw[List.map_map];refine List.map_congr_left fun d hd=>?_;have:=hy d hd;simp only[aL,Function.comp];rw[if_pos (by omega),show d+a.count-a.count=d by omega]
theorem xp(u:List Nat):(gd a b).jq u↔∃x y,u=x++y/\a.jq x/\b.jq y:=by
 have hn:(gd a b).node=(aL a b).node:=rfl;unfold GP.jq;constructor
 ·rintro⟨l,hl,rfl⟩;obtain⟨x,y,rfl,h1,h2⟩:=(Hg ha hb hr l).1 hl;refine⟨_,_,?_,⟨x,h1,rfl⟩,⟨y,h2,rfl⟩⟩;rw[hn,List.map_append,jr ha hr x (h1.lt ha),iJ hb hr y (h2.lt hb)]
 ·rintro⟨_,_,rfl,⟨x,h1,rfl⟩,⟨y,h2,rfl⟩⟩;refine⟨_,(Hg ha hb hr _).2 ⟨x,y,rfl,h1,h2⟩,?_⟩;rw[hn,List.map_append,jr ha hr x (h1.lt ha),iJ hb hr y (h2.lt hb)]
theorem Hh:(gd a b).Fit:=by
 refine⟨hr,fun i h=>?_,fun i h=>?_,fun s i h=>?_⟩
 ·show i<a.count+b.count;rcases (Ap ha hb hr).1 h with h|⟨_,h1,h2⟩
  ·have:=ha.first _ h;omega
  ·have:=hb.first _ h2;omega
 ·show i<a.count+b.count;rcases (xo ha hb hr).1 h with⟨h1,h2⟩|⟨_,h2⟩
  ·have:=hb.last _ h2;omega
  ·have:=ha.last _ h2;omega
 ·show i<a.count+b.count;by_cases h1:s<a.count
  ·rcases (tN ha hb hr h1).1 h with h|⟨_,h2,h3⟩
   ·have:=ha.next _ _ h;omega
   ·have:=hb.first _ h3;omega
  ·by_cases h2:s<a.count+b.count
   ·have h3:=((ry ha hb hr (by omega) h2).1 h).2;have:=hb.next _ _ h3;omega
   ·simp only[gd,dY,aL]at h;rw[if_neg (show ¬(a.count<=s/\s<a.count+b.count/\s<60) by omega)]at h;split at h
    ·rename_i h4;have:=ha.last _ h4.2;omega
    ·have:=ha.next _ _ h;omega
theorem zg{s:Nat}(hs:s<a.count):(cG a b).next s=a.next s:=by
 have _:=ha;have _:=hb;have _:=hr;simp only[cG,aL];rw[if_neg (by omega)]
theorem xq{s d:Nat}(hs:s<b.count):((cG a b).next (s+a.count)).getLsbD d=true↔a.count<=d/\(b.next s).getLsbD (d-a.count)=true:=by
 have _:=ha;simp only[cG,aL];rw[if_pos (by omega),kG _ _ _ (fun j hj=>by have:=hb.next _ j hj;omega),show s+a.count-a.count=s by omega]
theorem rz{s:Nat}:(cG a b).last.getLsbD s=true↔a.last.getLsbD s=true\/(a.count<=s/\b.last.getLsbD (s-a.count)=true):=by
 have _:=ha;simp only[cG];rw[bD,Bool.or_eq_true,kG _ _ _ (fun j hj=>by have:=hb.last j hj;omega)]
theorem vt{s:Nat}:(cG a b).first.getLsbD s=true↔a.first.getLsbD s=true\/(a.count<=s/\b.first.getLsbD (s-a.count)=true):=by
 have _:=ha;simp only[cG];rw[bD,Bool.or_eq_true,kG _ _ _ (fun j hj=>by have:=hb.first j hj;omega)]
theorem pY:∀(l:List Nat) (s:Nat),s<a.count->((cG a b).qV s l↔a.qV s l)
 | [],s,hs=>by
   simp only[GP.qV];rw[rz ha hb hr];exact⟨fun h=>h.elim id (fun h=>by omega),Or.inl⟩
 | d :: r,s,hs=>by
   simp only[GP.qV];rw[zg ha hb hr hs];exact⟨fun h=>⟨h.1,(pY r d (ha.next _ _ h.1)).1 h.2⟩,fun h=>⟨h.1,(pY r d (ha.next _ _ h.1)).2 h.2⟩⟩
theorem nM:∀(l:List Nat) (s:Nat),s<b.count->((cG a b).qV (s+a.count) l↔∃y,l=y.map (·+a.count)/\b.qV s y)
 | [],s,hs=>by
   simp only[GP.qV];rw[rz ha hb hr];constructor
   ·rintro(h|⟨_,h⟩)
    ·have:=ha.last _ h;omega
    ·exact⟨[],rfl,by simpa [GP.qV] using h⟩
   ·rintro⟨y,hy,h⟩;cases y with
    | nil=>exact Or.inr ⟨by omega,by simpa [GP.qV] using h⟩
    | cons=>simp at hy
 | d :: r,s,hs=>by
   simp only[GP.qV];rw[xq ha hb hr hs];constructor
   ·rintro⟨⟨h1,h2⟩,h3⟩;obtain⟨e,rfl⟩:∃e,d=e+a.count:=⟨d-a.count,by omega⟩;rw[show e+a.count-a.count=e by omega]at h2;obtain⟨y,rfl,h4⟩:=(nM r e (hb.next _ _ h2)).1 h3;exact⟨e :: y,rfl,h2,h4⟩
   ·rintro⟨y,hy,h⟩;cases y with
    | nil=>simp at hy
    | cons e y=>
      simp only[List.map_cons,List.cons.injEq]at hy;obtain⟨rfl,rfl⟩:=hy;rw[show e+a.count-a.count=e by omega];exact⟨⟨by omega,h.1⟩,(nM _ e (hb.next _ _ h.1)).2 ⟨y,rfl,h.2⟩⟩
theorem ue(l:List Nat):(cG a b).Acc l↔a.Acc l\/∃y,l=y.map (·+a.count)/\b.Acc y:=by
 cases l with
 | nil=>
   simp only[GP.Acc,cG,Bool.or_eq_true];constructor
   ·rintro(h|h)
    ·exact Or.inl h
    ·exact Or.inr ⟨[],rfl,h⟩
   ·rintro(h|⟨y,hy,h⟩)
    ·exact Or.inl h
    ·cases y with
     | nil=>exact Or.inr h
     | cons=>simp at hy
 | cons d r=>
   simp only[GP.Acc];rw[vt ha hb hr];constructor
   ·rintro⟨h1|⟨h1,h2⟩,h3⟩
    ·exact Or.inl ⟨h1,(pY ha hb hr r d (ha.first _ h1)).1 h3⟩
    ·obtain⟨e,rfl⟩:∃e,d=e+a.count:=⟨d-a.count,by omega⟩;rw[show e+a.count-a.count=e by omega]at h2;obtain⟨y,rfl,h4⟩:=(nM ha hb hr r e (hb.first _ h2)).1 h3;exact Or.inr ⟨e :: y,rfl,h2,h4⟩
   ·rintro(⟨h1,h2⟩|⟨y,hy,h⟩)
    ·exact⟨Or.inl h1,(pY ha hb hr r d (ha.first _ h1)).2 h2⟩
    ·cases y with
     | nil=>simp at hy
     | cons e y=>
       simp only[List.map_cons,List.cons.injEq]at hy;obtain⟨rfl,rfl⟩:=hy;refine⟨Or.inr ⟨by omega,?_⟩,(nM ha hb hr _ e (hb.first _ h.1)).2 ⟨y,rfl,h.2⟩⟩;rw[show e+a.count-a.count=e by omega];exact h.1
theorem Hi(u:List Nat):(cG a b).jq u↔a.jq u\/b.jq u:=by
 have hn:(cG a b).node=(aL a b).node:=rfl;unfold GP.jq;constructor
 ·rintro⟨l,hl,rfl⟩;rcases (ue ha hb hr l).1 hl with h|⟨y,rfl,h⟩
  ·exact Or.inl ⟨l,h,by rw[hn,jr ha hr l (h.lt ha)]⟩
  ·exact Or.inr ⟨y,h,by rw[hn,iJ hb hr y (h.lt hb)]⟩
 ·rintro(⟨l,h,rfl⟩|⟨y,h,rfl⟩)
  ·exact⟨l,(ue ha hb hr l).2 (Or.inl h),by rw[hn,jr ha hr l (h.lt ha)]⟩
  ·exact⟨_,(ue ha hb hr _).2 (Or.inr ⟨y,rfl,h⟩),by rw[hn,iJ hb hr y (h.lt hb)]⟩
theorem Km:(cG a b).Fit:=by
 refine⟨hr,fun i h=>?_,fun i h=>?_,fun s i h=>?_⟩
 ·show i<a.count+b.count;rcases (vt ha hb hr).1 h with h|⟨h1,h2⟩
  ·have:=ha.first _ h;omega
  ·have:=hb.first _ h2;omega
 ·show i<a.count+b.count;rcases (rz ha hb hr).1 h with h2|⟨h1,h2⟩
  ·have:=ha.last _ h2;omega
  ·have:=hb.last _ h2;omega
 ·show i<a.count+b.count;simp only[cG,aL]at h;split at h
  ·have h3:=((kG _ _ _ (fun j hj=>by have:=hb.next _ j hj;omega)).1 h).2;have:=hb.next _ _ h3;have:=((kG _ _ _ (fun j hj=>by have:=hb.next _ j hj;omega)).1 h).1;omega
  ·have:=ha.next _ _ h;omega
end
def js(a:GP):GP:=dY a a.last a.first
section
variable {a:GP}(ha:a.Fit)
include ha
theorem sQ{s d:Nat}:((js a).next s).getLsbD d=true↔(a.next s).getLsbD d=true\/(a.last.getLsbD s=true/\a.first.getLsbD d=true):=by
 simp only[js,dY];split
 ·rename_i h
  rw[bD,Bool.or_eq_true];simp[h.2]
 ·rename_i h
  have:¬a.last.getLsbD s=true:=fun hc=>h ⟨by have:=ha.last _ hc;have:=ha.room;omega,hc⟩;simp[this]
theorem Hj:(js a).Fit:=⟨ha.room,ha.first,ha.last,fun s i h=>by
 rcases (sQ ha).1 h with h|⟨_,h⟩
 ·exact ha.next _ _ h
 ·exact ha.first _ h⟩
theorem Hk:∀(l:List Nat) (s:Nat),(js a).qV s l->∃(x:List Nat) (ys:List (List Nat)),l=x++ys.flatten/\a.qV s x/\∀y,y∈ys->a.Acc y
 | [],s,h=>⟨[],[],rfl,h,fun _ h=>(List.not_mem_nil h).elim⟩
 | d :: r,s,h=>by
   obtain⟨h1,h2⟩:=h;obtain⟨x,ys,rfl,h3,h4⟩:=Hk r d h2;rcases (sQ ha).1 h1 with h1|⟨h1,h5⟩
   ·exact⟨d :: x,ys,rfl,⟨h1,h3⟩,h4⟩
   ·refine⟨[],(d :: x) :: ys,rfl,h1,fun y hy=>?_⟩;rcases List.mem_cons.1 hy with rfl|hy
    ·exact⟨h5,h3⟩
    ·exact h4 y hy
theorem kI:∀(ys:List (List Nat)) (x:List Nat) (s:Nat),a.qV s x->(∀y,y∈ys->a.Acc y)->(js a).qV s (x++ys.flatten)
 | ys,d :: x,s,h,hy=>⟨(sQ ha).2 (Or.inl h.1),kI ys x d h.2 hy⟩
 | [],[],s,h,_=>h
 | [] :: ys,[],s,h,hy=>kI ys [] s h (fun y hm=>hy y (List.mem_cons_of_mem _ hm))
 | (d :: x) :: ys,[],s,h,hy=>
   have h1:a.Acc (d :: x):=hy _ (List.mem_cons_self ..);⟨(sQ ha).2 (Or.inr ⟨h,h1.1⟩),kI ys x d h1.2 (fun y hm=>hy y (List.mem_cons_of_mem _ hm))⟩
termination_by ys x=>(ys.length,x.length)
theorem Hl(l:List Nat):(js a).Acc l↔∃ys:List (List Nat),ys≠[]/\l=ys.flatten/\∀y,y∈ys->a.Acc y:=by
 constructor
 ·intro h;cases l with
  | nil=>exact⟨[[]],by simp,rfl,fun y hy=>by simp at hy;subst hy;exact h⟩
  | cons d r=>
    obtain⟨x,ys,rfl,h3,h4⟩:=Hk ha r d h.2;refine⟨(d :: x) :: ys,by simp,rfl,fun y hy=>?_⟩;rcases List.mem_cons.1 hy with rfl|hy
    ·exact⟨h.1,h3⟩
    ·exact h4 y hy
 ·rintro⟨ys,fx,rfl,hy⟩;induction ys with
  | nil=>exact absurd rfl fx
  | cons y ys ih=>
    cases y with
    | nil=>
      cases ys with
      | nil=>exact hy _ (List.mem_cons_self ..)
      | cons z zs=>exact ih (by simp) (fun y hm=>hy y (List.mem_cons_of_mem _ hm))
    | cons d x=>
      have h1:a.Acc (d :: x):=hy _ (List.mem_cons_self ..);exact⟨h1.1,kI ha ys x d h1.2 (fun y hm=>hy y (List.mem_cons_of_mem _ hm))⟩
theorem Ok(ys:List (List Nat))(h:∀y,y∈ys->a.Acc y):∀u,u∈ys.map (List.map a.node)->a.jq u:=fun u hu=>by
 have _:=ha;obtain⟨y,hy,rfl⟩:=List.mem_map.1 hu;exact⟨y,h y hy,rfl⟩
omit ha in
theorem Du:∀us:List (List Nat),(∀u,u∈us->a.jq u)->∃ys:List (List Nat),us=ys.map (List.map a.node)/\∀y,y∈ys->a.Acc y
 | [],_=>⟨[],rfl,fun _ h=>by cases h⟩
 | u :: us,h=>by
   obtain⟨ys,rfl,h2⟩:=Du us (fun u hu=>h u (List.mem_cons_of_mem _ hu));obtain⟨y,h3,rfl⟩:=h u (List.mem_cons_self ..);refine⟨y :: ys,rfl,fun z hz=>?_⟩;rcases List.mem_cons.1 hz with rfl|hz
   ·exact h3
   ·exact h2 z hz
theorem Ol(u:List Nat):(js a).jq u↔∃us:List (List Nat),us≠[]/\u=us.flatten/\∀x,x∈us->a.jq x:=by
 have hn:(js a).node=a.node:=rfl;constructor
 ·rintro⟨l,hl,rfl⟩;obtain⟨ys,h1,rfl,h2⟩:=(Hl ha l).1 hl;exact⟨ys.map (List.map a.node),by simpa using h1,by rw[hn,List.map_flatten],Ok ha ys h2⟩
 ·rintro⟨us,h1,rfl,h2⟩;obtain⟨ys,rfl,h3⟩:=Du us h2;exact⟨ys.flatten,(Hl ha _).2 ⟨ys,by simpa using h1,rfl,h3⟩,by rw[hn,List.map_flatten]⟩
end
def rA(a:GP):GP:={a with empty:=true}
theorem Aq{a:GP}(ha:a.Fit):(rA a).Fit:=⟨ha.room,ha.first,ha.last,ha.next⟩
theorem uf(a:GP):∀(l:List Nat) (s:Nat),(rA a).qV s l↔a.qV s l
 | [],_=>Iff.rfl
 | d :: r,s=>by simp only[GP.qV,uf a r d];exact Iff.rfl
theorem yA(a:GP)(u:List Nat):(rA a).jq u↔u=[]\/a.jq u:=by
 constructor
 ·rintro⟨l,hl,rfl⟩;cases l with
  | nil=>exact Or.inl rfl
  | cons d r=>exact Or.inr ⟨d :: r,⟨hl.1,(uf a r d).1 hl.2⟩,rfl⟩
 ·rintro(rfl|⟨l,hl,rfl⟩)
  ·exact⟨[],rfl,rfl⟩
  ·cases l with
   | nil=>exact⟨[],rfl,rfl⟩
   | cons d r=>exact⟨d :: r,⟨hl.1,(uf a r d).2 hl.2⟩,rfl⟩
def cO:GP:={empty:=true}
theorem Dv:cO.Fit:=⟨by decide,fun i h=>by simp[cO]at h,fun i h=>by simp[cO]at h,fun s i h=>by simp[cO]at h⟩
theorem Ar(u:List Nat):cO.jq u↔u=[]:=by
 constructor
 ·rintro⟨l,hl,rfl⟩;cases l with
  | nil=>rfl
  | cons d r=>have:=hl.1;simp[cO]at this
 ·rintro rfl;exact⟨[],rfl,rfl⟩
def pZ(a:GP)(zE:Bool)(least times k:Nat):GP:=
 let one:=if zE=true/\k=times then js a else a
 if least<k then rA one else one
def aJ(a:GP)(zE:Bool)(least times:Nat):Nat->GP
 | 0=>cO
 | k+1=>gd (aJ a zE least times k) (pZ a zE least times (k+1))
theorem vu{a:GP}(ha:a.Fit)(e:Bool)(l t k:Nat):(pZ a e l t k).Fit/\(pZ a e l t k).count=a.count:=by
 unfold pZ;simp only[];split <;> split
 ·exact⟨Aq (Hj ha),rfl⟩
 ·exact⟨Aq ha,rfl⟩
 ·exact⟨Hj ha,rfl⟩
 ·exact⟨ha,rfl⟩
theorem iU{a:GP}(ha:a.Fit)(e:Bool)(l t:Nat):∀k,k*a.count<=60->(aJ a e l t k).Fit/\(aJ a e l t k).count=k*a.count
 | 0,_=>⟨Dv,by simp[aJ,cO]⟩
 | k+1,h=>by
   rw[Nat.add_one_mul]at h ⊢;obtain⟨h1,h2⟩:=iU ha e l t k (by omega);obtain⟨h3,h4⟩:=vu ha e l t (k+1);refine⟨Hh h1 h3 (by omega),?_⟩;show(aJ a e l t k).count+(pZ a e l t (k+1)).count=_;omega
def xu(L:List Nat->Prop)(n:Nat)(u:List Nat):Prop:=∃us:List (List Nat),us.length=n/\u=us.flatten/\∀x,x∈us->L x
theorem sR(L:List Nat->Prop)(u:List Nat):xu L 0 u↔u=[]:=by
 constructor
 ·rintro⟨us,h1,rfl,_⟩;rw[List.length_eq_zero_iff.1 h1];rfl
 ·rintro rfl;exact⟨[],rfl,rfl,fun _ h=>by cases h⟩
theorem sS(L:List Nat->Prop)(n:Nat)(u:List Nat):xu L (n+1) u↔∃x y,u=x++y/\xu L n x/\L y:=by
 constructor
 ·rintro⟨us,h1,rfl,h2⟩;have fx:us≠[]:=fun hc=>by rw[hc]at h1;simp at h1
  refine⟨us.dropLast.flatten,us.getLast fx,?_,⟨us.dropLast,by simp[h1],rfl,fun x hx=>h2 x (List.dropLast_subset _ hx)⟩,h2 _ (List.getLast_mem fx)⟩;conv=>lhs;rw[<-List.dropLast_concat_getLast fx]
  simp
 ·rintro⟨x,y,rfl,⟨us,h1,rfl,h2⟩,h3⟩;refine⟨us++[y],by simp[h1],by simp,fun z hz=>?_⟩;rcases List.mem_append.1 hz with hz|hz
  ·exact h2 z hz
  ·simp at hz;subst hz;exact h3
theorem RA(L:List Nat->Prop)(n m:Nat)(x y:List Nat)(hx:xu L n x)(hy:xu L m y):xu L (n+m) (x++y):=by
 obtain⟨us,h1,rfl,h2⟩:=hx;obtain⟨vs,h3,rfl,h4⟩:=hy;refine⟨us++vs,by simp[h1,h3],by simp,fun z hz=>?_⟩;rcases List.mem_append.1 hz with hz|hz
 ·exact h2 z hz
 ·exact h4 z hz
section
variable {a:GP}(ha:a.Fit)
include ha
theorem rB(e:Bool)(l t:Nat):∀(k:Nat) (_:k*a.count<=60) (_:e=true->k<t) (u:List Nat),(aJ a e l t k).jq u↔∃n,(if k<=l then k else l)<=n/\n<=k/\xu a.jq n u
 | 0,_,_,u=>by
   rw[aJ,Ar];constructor
   ·rintro rfl;exact⟨0,by simp,Nat.le_refl _,(sR _ _).2 rfl⟩
   ·rintro⟨n,_,hn,h⟩;obtain rfl:n=0:=by omega
    exact(sR _ _).1 h
 | k+1,hk,he,u=>by
   rw[Nat.add_one_mul]at hk;obtain⟨h1,h2⟩:=iU ha e l t k (by omega);obtain⟨h3,h4⟩:=vu ha e l t (k+1);rw[aJ,xp h1 h3 (by omega)];have ih:=rB e l t k (by omega) (fun h=>by have:=he h;omega);have zh:∀y,(pZ a e l t (k+1)).jq y↔(l<k+1/\y=[])\/a.jq y:=fun y=>by
    unfold pZ;simp only[];rw[if_neg (show ¬(e=true/\k+1=t) from fun hc=>by have:=he hc.1;omega)];split
    ·rename_i h;rw[yA];simp[h]
    ·rename_i h;simp[h]
   constructor
   ·rintro⟨x,y,rfl,hx,hy⟩;obtain⟨n,h5,h6,h7⟩:=(ih x).1 hx;rcases (zh y).1 hy with⟨h8,rfl⟩|h8
    ·refine⟨n,?_,by omega,by simpa using h7⟩;rw[if_neg (by omega)];split at h5 <;> omega
    ·refine⟨n+1,?_,by omega,(sS _ _ _).2 ⟨x,y,rfl,h7,h8⟩⟩;split at h5 <;> split <;> omega
   ·rintro⟨n,h5,h6,h7⟩;by_cases hn:n<=k/\l<k+1
    ·refine⟨u,[],by simp,(ih u).2 ⟨n,?_,hn.1,h7⟩,(zh _).2 (Or.inl ⟨hn.2,rfl⟩)⟩;rw[if_neg (by omega)]at h5;split <;> omega
    ·obtain⟨m,rfl⟩:∃m,n=m+1:=⟨n-1,by split at h5 <;> omega⟩
     obtain⟨x,y,rfl,h8,h9⟩:=(sS _ _ _).1 h7;refine⟨x,y,rfl,(ih x).2 ⟨m,?_,by omega,h8⟩,(zh y).2 (Or.inr h9)⟩;split at h5 <;> split <;> omega
theorem Om(l t:Nat)(ht:t*a.count<=60)(hl:l<=t)(u:List Nat):(aJ a false l t t).jq u↔∃n,l<=n/\n<=t/\xu a.jq n u:=by
 rw[rB ha false l t t ht (fun h=>by cases h)];constructor
 ·rintro⟨n,h1,h2,h3⟩;exact⟨n,by split at h1 <;> omega,h2,h3⟩
 ·rintro⟨n,h1,h2,h3⟩;exact⟨n,by split <;> omega,h2,h3⟩
theorem EV(l:Nat)(ht:(if l<1 then 1 else l)*a.count<=60)(u:List Nat):(aJ a true l (if l<1 then 1 else l) (if l<1 then 1 else l)).jq u↔∃n,l<=n/\xu a.jq n u:=by
 obtain⟨k,hk⟩:∃k,(if l<1 then 1 else l)=k+1:=⟨(if l<1 then 1 else l)-1,by split <;> omega⟩
 rw[hk]at ht ⊢;rw[Nat.add_one_mul]at ht;obtain⟨h1,h2⟩:=iU ha true l (k+1) k (by omega);obtain⟨h3,h4⟩:=vu ha true l (k+1) (k+1);rw[aJ,xp h1 h3 (by omega)];have ih:=rB ha true l (k+1) k (by omega) (fun _=>by omega);have zh:∀y,(pZ a true l (k+1) (k+1)).jq y↔(l<k+1/\y=[])\/∃n,1<=n/\xu a.jq n y:=fun y=>by
  have hp:(js a).jq y↔∃n,1<=n/\xu a.jq n y:=by
   rw[Ol ha];constructor
   ·rintro⟨us,h5,rfl,h6⟩;exact⟨us.length,by have:=List.length_pos_iff.2 h5;omega,us,rfl,rfl,h6⟩
   ·rintro⟨n,h5,us,rfl,rfl,h6⟩;exact⟨us,List.length_pos_iff.1 (by omega),rfl,h6⟩
  unfold pZ;simp only[];rw[if_pos (show True/\True from ⟨trivial,trivial⟩)];split
  ·rename_i h;rw[yA,hp];simp[h]
  ·rename_i h;rw[hp];simp[h]
 constructor
 ·rintro⟨x,y,rfl,hx,hy⟩;obtain⟨n,h5,h6,h7⟩:=(ih x).1 hx;rcases (zh y).1 hy with⟨h8,rfl⟩|⟨m,h8,h9⟩
  ·refine⟨n,?_,by simpa using h7⟩;by_cases h0:l<1
   ·omega
   ·rw[if_neg h0]at hk;omega
  ·refine⟨n+m,?_,RA _ _ _ _ _ h7 h9⟩;by_cases h0:l<1
   ·omega
   ·rw[if_neg h0]at hk;split at h5 <;> omega
 ·rintro⟨n,h5,h6⟩;obtain⟨us,h7,rfl,h8⟩:=h6;have xv:k<=n:=by
   by_cases h0:l<1
   ·rw[if_pos h0]at hk;omega
   ·rw[if_neg h0]at hk;omega
  refine⟨(us.take k).flatten,(us.drop k).flatten,by rw[<-List.flatten_append,List.take_append_drop],(ih _).2 ⟨k,?_,Nat.le_refl _,us.take k,by simp[h7];omega,rfl,fun x hx=>h8 x (List.mem_of_mem_take hx)⟩,(zh _).2 ?_⟩
  ·split <;> omega
  ·by_cases hz:n=k
   ·left;constructor
    ·by_cases h0:l<1
     ·omega
     ·rw[if_neg h0]at hk;omega
    ·rw[List.drop_of_length_le (by omega)];rfl
   ·right;exact⟨n-k,by omega,us.drop k,by simp[h7],rfl,fun x hx=>h8 x (List.mem_of_mem_drop hx)⟩
end
end Go.Proofs.YtgifhgnccmnbiabGreatDoor
namespace Go.Proofs.YtgifhgnccmnbiabGreatDoor
open Go.RowKit Go.IntWalk
abbrev UV (s:aZ):Value:=.int .u64 (s.toNat:Int)
theorem As(n:Nat)(h:n<18446744073709551616):IntKind.wrap .u64 (n:Int)=(n:Int):=by
 simp only[IntKind.wrap,IntKind.signed,IntKind.bits];simp;omega
theorem p8(x y:aZ):bits .or .u64 (x.toNat:Int) (y.toNat:Int)=((x|||y).toNat:Int):=by
 show IntKind.wrap .u64 ((BitVec.ofInt 64 (x.toNat:Int)|||BitVec.ofInt 64 (y.toNat:Int)).toNat:Int)=_
 rw[BitVec.ofInt_natCast,BitVec.ofInt_natCast,BitVec.ofNat_toNat,BitVec.ofNat_toNat,BitVec.setWidth_eq,BitVec.setWidth_eq];exact As _ (x|||y).isLt
theorem Au(x y:aZ):bits .and .u64 (x.toNat:Int) (y.toNat:Int)=((x&&&y).toNat:Int):=by
 show IntKind.wrap .u64 ((BitVec.ofInt 64 (x.toNat:Int)&&&BitVec.ofInt 64 (y.toNat:Int)).toNat:Int)=_;rw[BitVec.ofInt_natCast,BitVec.ofInt_natCast,BitVec.ofNat_toNat,BitVec.ofNat_toNat,BitVec.setWidth_eq,BitVec.setWidth_eq];exact As _ (x&&&y).isLt
theorem Hm(x:aZ)(n:Nat):IntKind.wrap .u64 ((x.toNat:Int)*2 ^ n)=((x <<< n).toNat:Int):=by
 rw[BitVec.toNat_shiftLeft,Nat.shiftLeft_eq];simp only[IntKind.wrap,IntKind.signed,IntKind.bits];simp
theorem ox(x:aZ):((x.toNat:Int)=0)↔x=0#64:=by
 constructor
 ·intro h;apply BitVec.eq_of_toNat_eq;simp;omega
 ·rintro rfl;rfl
theorem RB(x:aZ):x=0#64↔∀i,x.getLsbD i=false:=by
 constructor
 ·rintro rfl i;simp
 ·intro h;apply BitVec.eq_of_getLsbD_eq;intro i hi;simp[h i]
def br(n:Nat)(f:Nat->Value):Array Value:=((List.range n).map f).toArray
@[simp] theorem yB (n:Nat) (f:Nat->Value):(br n f).size=n:=by simp[br]
theorem b9{n:Nat}(f:Nat->Value){i:Nat}(h:i<n):(br n f)[i]?=some (f i):=by simp[br,h]
theorem bm{n:Nat}(f f':Nat->Value)(i:Nat)(v:Value)(h:∀j,j<n->f' j=if j=i then v else f j):(br n f).setIfInBounds i v=br n f':=by
 apply Array.ext
 ·simp[br]
 ·intro j h1 h2;have hj:j<n:=by simpa [br] using h2
  rw[Array.getElem_setIfInBounds (by simpa [br] using hj)];simp only[br,List.getElem_toArray,List.getElem_map,List.getElem_range];rw[h j hj];by_cases N9:i=j
  ·subst N9;simp
  ·rw[if_neg N9,if_neg (fun hc=>N9 hc.symm)]
theorem ia{n:Nat}{f f':Nat->Value}(h:∀j,j<n->f j=f' j):br n f=br n f':=by
 apply Array.ext
 ·simp[br]
 ·intro j h1 h2;simp only[br,List.getElem_toArray,List.getElem_map,List.getElem_range];exact h j (by simpa [br] using h1)
theorem Av{n:Nat}{f:Nat->Value}(h:∀j,j<n->(f j).oneCell'=true):(br n f).all (·.oneCell')=true:=by
 rw[Array.all_eq_true_iff_forall_mem];intro v hv;simp only[br,List.mem_toArray,List.mem_map,List.mem_range]at hv;obtain⟨j,hj,rfl⟩:=hv;exact h j hj
theorem VM(s:aZ)(i:Nat):((s.toNat:Int) / 2 ^ i % 2=1)↔s.getLsbD i=true:=by
 rw[BitVec.getLsbD,Nat.testBit_eq_decide_div_mod_eq,decide_eq_true_eq];have h2:((s.toNat / 2 ^ i % 2:Nat):Int)=(s.toNat:Int) / 2 ^ i % 2:=by simp
 constructor
 ·intro h;rw[<-h2]at h;omega
 ·intro h;rw[<-h2,h];rfl
theorem EW(s:aZ)(i:Nat)(hi:i<64)(w:World):
 Calls Tryz.prog 143 #[.int .u64 (s.toNat:Int),.int .i64 (i:Int)] w fun e w'=>e=.returned (.bool (s.getLsbD i))/\w'=w:=by
 have hb:=VM s i;have h0:(0:Int)<=(s.toNat:Int) / 2 ^ i:=Int.ediv_nonneg (by omega) (Int.pow_nonneg (by decide));have h1:(s.toNat:Int) / 2 ^ i<=18446744073709551615:=Int.le_trans (Int.ediv_le_self _ (by omega)) (by have:=s.isLt;omega);have h2:Hid (bits .and .u64 ((s.toNat:Int) / 2 ^ i) 1=(s.toNat:Int) / 2 ^ i % 2):=and_one_u64 _ h0 h1;clear h0 h1;have h3:Hid ((bits .and .u64 ((s.toNat:Int) / 2 ^ i) 1==1)=s.getLsbD i):=by
  show(_==_)=_;rw[h2.out,Bool.eq_iff_iff,beq_iff_eq];exact hb
 clear hb h2;go_enter Tryz.func143,Tryz.ntmps143
 go_wp2
 rw[h3.out];go_ret;exact⟨rfl,rfl⟩
def nN(p:GP)(i:Nat):Value:=
 if i=0 then .int .i64 (p.count:Int) else if i=1 then .bool p.empty else if i=2 then UV p.first else if i=3 then UV p.last
 else if i<64 then UV (p.next (i-4)) else .int .i64 (p.node (i-64):Int)
def ae(p:GP):Array Value:=br 124 (nN p)
@[simp] theorem ib (p:GP):(ae p).size=124:=yB _ _
theorem On(p:GP)(i:Nat):(nN p i).oneCell'=true:=by
 unfold nN;repeat' split
 all_goals rfl
theorem yC(p:GP):(ae p).all (·.oneCell')=true:=Av fun j _=>On p j
theorem zF(p:GP):(ae p)[0]?=some (.int .i64 (p.count:Int)):=b9 _ (by decide)
theorem VN(p:GP):(ae p)[1]?=some (.bool p.empty):=b9 _ (by decide)
theorem VO(p:GP):(ae p)[2]?=some (UV p.first):=b9 _ (by decide)
theorem VP(p:GP):(ae p)[3]?=some (UV p.last):=b9 _ (by decide)
theorem mu(p:GP)(i:Nat)(h:i<60):(ae p)[4+i]?=some (UV (p.next i)):=by
 unfold ae;rw[b9 _ (by omega)];unfold nN;rw[if_neg (by omega),if_neg (by omega),if_neg (by omega),if_neg (by omega),if_pos (by omega),show 4+i-4=i by omega]
theorem mw(p:GP)(i:Nat)(h:i<60):(ae p)[64+i]?=some (.int .i64 (p.node i:Int)):=by
 unfold ae;rw[b9 _ (by omega)];unfold nN;rw[if_neg (by omega),if_neg (by omega),if_neg (by omega),if_neg (by omega),if_neg (by omega),show 64+i-64=i by omega]
theorem YA{α:Type}{xs:Array α}{i:Nat}{v:α}(h:xs[i]?=some v)(hi:i<xs.size):xs[i]=v:=by
 rw[Array.getElem?_eq_getElem hi]at h;exact Option.some.inj h
theorem MJ(p:GP)(h:0<(ae p).size):(ae p)[0]=.int .i64 (p.count:Int):=YA (zF p) h
structure GP.nF (p q:GP):Prop where
 count:p.count=q.count
 empty:p.empty=q.empty
 first:p.first=q.first
 last:p.last=q.last
 next:∀i,i<60->p.next i=q.next i
 node:∀i,i<60->p.node i=q.node i
theorem jt{p q:GP}(h:p.nF q):ae p=ae q:=ia fun j hj=>by
 unfold nN;rw[h.count,h.empty,h.first,h.last];repeat' split
 all_goals first | rfl | rw[h.next _ (by omega)] | rw[h.node _ (by omega)]
theorem rC(p:GP)(n:Nat):(ae p).setIfInBounds 0 (.int .i64 (n:Int))=ae { p with count:=n}:=bm _ _ _ _ fun j hj=>by
 unfold nN;split <;> rfl
theorem rD(p:GP)(b:Bool):(ae p).setIfInBounds 1 (.bool b)=ae { p with empty:=b}:=bm _ _ _ _ fun j hj=>by
 by_cases h:j=1
 ·subst h;rfl
 ·unfold nN;simp only[if_neg h]
theorem rE(p:GP)(s:aZ):(ae p).setIfInBounds 2 (UV s)=ae { p with first:=s}:=bm _ _ _ _ fun j hj=>by
 by_cases h:j=2
 ·subst h;rfl
 ·unfold nN;simp only[if_neg h]
theorem tO(p:GP)(s:aZ):(ae p).setIfInBounds 3 (UV s)=ae { p with last:=s}:=bm _ _ _ _ fun j hj=>by
 by_cases h:j=3
 ·subst h;rfl
 ·unfold nN;simp only[if_neg h]
theorem tP(p q:GP)(i:Nat)(s:aZ)(hi:i<60)(hq:q.nF { p with next:=fun j=>if j=i then s else p.next j}):(ae p).setIfInBounds (4+i) (UV s)=ae q:=by
 rw[jt hq];refine bm _ _ _ _ fun j hj=>?_;unfold nN;simp only[];by_cases h:j=4+i
 ·subst h;rw[if_neg (by omega),if_neg (by omega),if_neg (by omega),if_neg (by omega),if_pos (by omega),if_pos (by omega),if_pos rfl]
 ·rw[if_neg h];repeat' split
  all_goals first | rfl | omega
theorem tQ(p q:GP)(i:Nat)(n:Nat)(hi:i<60)(hq:q.nF { p with node:=fun j=>if j=i then n else p.node j}):(ae p).setIfInBounds (64+i) (.int .i64 (n:Int))=ae q:=by
 rw[jt hq];refine bm _ _ _ _ fun j hj=>?_;unfold nN;simp only[];by_cases h:j=64+i
 ·subst h;rw[if_neg (by omega),if_neg (by omega),if_neg (by omega),if_neg (by omega),if_neg (by omega),if_pos (by omega),if_pos rfl]
 ·rw[if_neg h];repeat' split
  all_goals first | rfl | omega
theorem Oo:(Tryz.prog.info? 158).map (fun i=>(i.zero,i.size))=some (some (.agg (ae {})),124):=by kernel_rfl
theorem bI(w:World):(zeroValue 158).run Tryz.prog w=.ok (.agg (ae {})) w:=by
 have h:=Oo;cases hq:Tryz.prog.info? 158 with
 | none=>simp[hq]at h
 | some i=>
   simp[hq]at h;simp[zeroValue,typeInfo,hq,h.1]
theorem sT:(Tryz.prog.info? 158).map (·.size)=some 124:=by kernel_rfl
theorem ai{ops:Array Oper}{rest:List Oper}{o:Oper}{a:Act}{w:World}{Q:Exit->Act->World->Prop}(pR:o.guard=none)(x:Operand)(ho:o.op=.load 158 x)
 (g:Nat) (hx:a.eval x=.pointer (some ⟨g,0,none⟩)) (p:GP) (hg:ah w g (ae p) 158)
 (h:wpList Tryz.prog ops Q rest (a.put o.dst (.agg (ae p))) w):wpList Tryz.prog ops Q (o :: rest) a w:=
 wpList_load_row pR _ x ho g hx _ _ _ _ hg Tryz.underlying158 rfl (by rw[ib];exact sT) h
theorem ah.Hn{w:World}{g:Nat}{cs cs':Array Value}{t:TypeId}(h:ah w g cs t):ah (w.setRow g cs') g cs' t:=setRow_heap w g cs cs' t (0,0) h
theorem Kept.setRow(w:World)(g:Nat)(cs:Array Value):Kept [g] w (w.setRow g cs):=
 ⟨rfl,rfl,rfl,by simp,fun k hk hn=>setRow_other w g k cs (by rintro rfl;exact hn (List.mem_singleton_self _))⟩
theorem ag{ops:Array Oper}{rest:List Oper}{o:Oper}{a:Act}{w:World}{Q:Exit->Act->World->Prop}(pR:o.guard=none)(x y:Operand)(ho:o.op=.store 158 x y)
 (g:Nat) (hx:a.eval x=.pointer (some ⟨g,0,none⟩)) (q p:GP) (hy:a.eval y=.agg (ae p)) (hg:ah w g (ae q) 158)
 (h:∀w',ah w' g (ae p) 158->Kept [g] w w'->w'.heap.size=w.heap.size->wpList Tryz.prog ops Q rest (a.put o.dst undef) w'):wpList Tryz.prog ops Q (o :: rest) a w:=by
 refine wpList_plain pR fun K hK=>?_;have hr:=run_storeVar_row (P:=Tryz.prog) w g 158 158 (ae q) (ae p) hg (by rw[ib];exact sT) (by simp) (yC p);unfold Oper.wp execOp;simp only[ho,hx,hy,Instr.storeAt,Instr.sureAddr,Sem.run_bind,Sem.run_pure,Result.andThen_ok,hr];exact hK _ _ (h _ hg.Hn (Kept.setRow w g _) (by simp))
theorem ah.oy(w:World)(o1:Obj)(cs:Array Value)(e:TypeId):ah ((w.alloc o1).alloc (.cells cs e)) (w.heap.size+1) cs e:=by
 have:=ah.new (w.alloc o1) cs e;simpa using this
theorem ah.EZ(w:World)(o1 o2:Obj)(cs:Array Value)(e:TypeId):ah (((w.alloc o1).alloc o2).alloc (.cells cs e)) (w.heap.size+1+1) cs e:=by
 have:=ah.new ((w.alloc o1).alloc o2) cs e;simpa using this
theorem ah.new3(w:World)(o1 o2 o3:Obj)(cs:Array Value)(e:TypeId):ah ((((w.alloc o1).alloc o2).alloc o3).alloc (.cells cs e)) (w.heap.size+1+1+1) cs e:=by
 have:=ah.new (((w.alloc o1).alloc o2).alloc o3) cs e;simpa using this
theorem Kept.cf{w x w':World}{g:Nat}(h:Kept [] w x)(k:Kept [g] x w')(hg:w.heap.size<=g):Kept [] w w':=
 ⟨k.os.trans h.os,k.tape.trans h.tape,k.output.trans h.output,Nat.le_trans h.size k.size,fun i hi _=>(k.block i (Nat.lt_of_lt_of_le hi h.size) (by simp;omega)).trans (h.block i hi (by simp))⟩
theorem aS{fn:Func}{r:Tmp}(h:fn.results=#[.cell r 158])(tmps:Array Value)(w:World)(g:Nat)(p:GP)
 (hp:tmps.getD r undef=.pointer (some ⟨g,0,none⟩)) (hg:ah w g (ae p) 158):(results fn tmps).run Tryz.prog w=.ok (.agg (ae p)) w:=
 results_cell_row h tmps w g _ _ _ _ hp hg Tryz.underlying158 rfl (by rw[ib];exact sT)
def aB(f:Nat)(args:Array Value)(w:World)(p:GP):Prop:=
 Calls Tryz.prog f args w fun e w'=>e=.returned (.agg (ae p))/\Kept [] w w'
def ie(a:GP)(fr dest:aZ)(q:Nat):GP:={a with next:=fun s=>if s<q/\fr.getLsbD s=true then a.next s|||dest else a.next s}
theorem Ho{a:GP}{fr dest:aZ}{q:Nat}(h:fr.getLsbD q=false):ie a fr dest (q+1)=ie a fr dest q:=by
 unfold ie;congr 1
 funext s
 by_cases hs:s=q
 ·subst hs;rw[if_neg (by simp[h]),if_neg (by simp[h])]
 ·by_cases h1:s<q/\fr.getLsbD s=true
  ·rw[if_pos ⟨by omega,h1.2⟩,if_pos h1]
  ·rw[if_neg (fun hc=>h1 ⟨by omega,hc.2⟩),if_neg h1]
theorem Kn{a:GP}{fr dest:aZ}{q:Nat}(h:fr.getLsbD q=true):(ie a fr dest (q+1)).nF { ie a fr dest q with next:=fun j=>if j=q then a.next q|||dest else (ie a fr dest q).next j}:=by
 refine⟨rfl,rfl,rfl,rfl,fun s _=>?_,fun _ _=>rfl⟩;simp only[ie];by_cases hs:s=q
 ·subst hs;rw[if_pos ⟨by omega,h⟩,if_pos rfl]
 ·rw[if_neg hs];by_cases h1:s<q/\fr.getLsbD s=true
  ·rw[if_pos ⟨by omega,h1.2⟩,if_pos h1]
  ·rw[if_neg (fun hc=>h1 ⟨by omega,hc.2⟩),if_neg h1]
theorem p9(a:GP)(fr dest:aZ)(w:World):
 aB 201 #[.agg (ae a),UV fr,UV dest] w (dY a fr dest):=by
 unfold aB;have hz:=bI;go_enter Tryz.func201,Tryz.ntmps201
 go_wp2_with fail
 go_loopw [7] (fun iv wr=>∃q:Nat,iv=.int .i64 (q:Int)/\q<=60/\ah wr w.heap.size (ae (ie a fr dest q)) 158/\ah wr (w.heap.size+1) (ae {}) 158/\Kept [] w wr) (fun iv _=>(60-intOf iv).toNat)
 case atStart=>
  have e0:ae (ie a fr dest 0)=ae a:=jt ⟨rfl,rfl,rfl,rfl,fun i _=>by simp[ie],fun _ _=>rfl⟩;exact⟨0,rfl,by omega,by rw[e0];exact(ah.new _ _ _).alloc _,by have:=ah.new (w.alloc (.cells (ae a) 158)) (ae {}) 158;simpa using this,((Kept.refl _ _).alloc _).alloc _⟩
 case round=>
  obtain⟨q,rfl,hq,hb,dB,hk⟩:=hrel;have dd:=hb.lt;by_cases bO:(q:Int)<60
  ·have tw:q<60:=by omega
   have rF:Hid (∀w,Calls _ _ _ _ _):=fun w=>EW fr q (by omega) w;have iw:=Kn (a:=a) (fr:=fr) (dest:=dest) (q:=q);have cY:=Ho (a:=a) (fr:=fr) (dest:=dest) (q:=q);have hOn:Hid (_->_):=iw;have hOff:Hid (_->_):=cY;clear iw cY;have tL:=p8 (a.next q) dest;have oz:(ie a fr dest q).next q=a.next q:=by simp[ie]
   have hc:=hb.cell (4+q);rw[mu _ _ tw,oz]at hc;have hf:=hb.frozen (4+q);have iI:Hid (ah _ _ _ _):=hb;have Vd:Hid (ah _ _ _ _):=dB;have zi:Hid (Kept _ _ _):=hk;clear hb dB hk oz;cases fP:fr.getLsbD q with
   | true=>
     have RC:Hid (_=_):=fP;rw[fP]at rF;clear fP;go_wp2_with (go_at_call 143;refine(rF.out _).mono ?_;rintro _ _ ⟨rfl,rfl⟩)
     refine⟨⟨q+1,by go_num,by omega,?_,Vd.out.other _ _ (by omega),zi.out.setCell (Or.inr (by simp)) _⟩,?_⟩
     ·have:=iI.out.set (4+q) (UV (a.next q|||dest))
      rw[tP _ _ _ _ tw (hOn.out RC.out)]at this;exact this
     ·simp only[intOf];omega
   | false=>
     have RC:Hid (_=_):=fP;rw[fP]at rF;clear fP;go_wp2_with (go_at_call 143;refine(rF.out _).mono ?_;rintro _ _ ⟨rfl,rfl⟩)
     refine⟨⟨q+1,by go_num,by omega,?_,Vd.out,zi.out⟩,?_⟩
     ·rw[hOff.out RC.out];exact iI.out
     ·simp only[intOf];omega
  ·have p':q=60:=by omega
   subst p';have e1:ae (ie a fr dest 60)=ae (dY a fr dest):=jt ⟨rfl,rfl,rfl,rfl,fun i _=>rfl,fun _ _=>rfl⟩;rw[e1]at hb;have iI:Hid (ah _ _ _ _):=hb;have Vd:Hid (ah _ _ _ _):=dB;have zi:Hid (Kept _ _ _):=hk;clear hb dB hk e1;go_wp2_with (first | (refine ai rfl (.tmp 3) rfl w.heap.size rfl _ iI.out ?_) | (refine ag rfl (.tmp 6) (.tmp 23) rfl (w.heap.size+1) rfl {} _ rfl Vd.out ?_;intro w5 eY mN QN))
   exact bodyPost_ret (v:=.agg (ae (dY a fr dest))) (aS Tryz.results201 _ _ _ _ rfl eY) rfl ⟨rfl,zi.out.cf mN (by omega)⟩
theorem vv(n:Nat)(off:Nat):∀(vs:List Value) (k:Nat) (f:Nat->Value),
 (vs.zipIdx k).foldl (fun cs (x:Value×Nat)=>cs.setIfInBounds (off+x.2) x.1) (br n f)=br n (fun i=>if off+k<=i/\i<off+k+vs.length then vs.getD (i-(off+k)) undef else f i)
 | [],k,f=>by
   simp only[List.zipIdx_nil,List.foldl_nil];refine ia fun j _=>?_;rw[if_neg (by rw[List.length_nil];omega)]
 | v :: vs,k,f=>by
   simp only[List.zipIdx_cons,List.foldl_cons];rw[bm f (fun i=>if i=off+k then v else f i) (off+k) v (fun j _=>rfl),vv n off vs (k+1)];refine ia fun j _=>?_;simp only[List.length_cons];by_cases h1:off+(k+1)<=j/\j<off+(k+1)+vs.length
   ·rw[if_pos h1,if_pos (by omega)];obtain⟨d,rfl⟩:∃d,j=off+(k+1)+d:=⟨j-(off+(k+1)),by omega⟩;rw[show off+(k+1)+d-(off+(k+1))=d by omega,show off+(k+1)+d-(off+k)=d+1 by omega];rfl
   ·rw[if_neg h1];by_cases h2:j=off+k
    ·subst h2;rw[if_pos rfl,if_pos (by omega),Nat.sub_self];rfl
    ·rw[if_neg h2,if_neg (by omega)]
theorem xw(n m off:Nat)(f g:Nat->Value):
 Array.foldl (fun cs (x:Value×Nat)=>cs.setIfInBounds (off+x.2) x.1) (br n f) (br m g).zipIdx 0 m=br n (fun i=>if off<=i/\i<off+m then g (i-off) else f i):=by
 have hs:(br m g).zipIdx.size=m:=by simp
 have e:∀F:Array Value->Value×Nat->Array Value,∀x,Array.foldl F x (br m g).zipIdx 0 m=(br m g).zipIdx.foldl F x:=fun F x=>by
  conv=>rhs;rw[hs]
 rw[e,<-Array.foldl_toList,Array.toList_zipIdx,vv n off _ 0 f];refine ia fun j _=>?_;simp only[Nat.add_zero,br,List.length_map,List.length_range];by_cases h:off<=j/\j<off+m
 ·rw[if_pos h,if_pos h];rw[List.getD_eq_getElem?_getD,List.getElem?_map,List.getElem?_range (by omega)];rfl
 ·rw[if_neg h,if_neg h]
theorem Ko(w:World)(c:Nat)(p:GP):
 (Instr.build 158 #[(0,.int .i64 (c:Int)),(4,.agg (br 60 (fun i=>UV (p.next i)))),(5,.agg (br 60 (fun i=>.int .i64 (p.node i:Int))))]).run Tryz.prog w=.ok (.agg (ae { count:=c,next:=p.next,node:=p.node})) w:=by
 unfold Instr.build;rw[Sem.run_bind,bI w];simp[Sem.run_bind,run_underlying Tryz.underlying158,go_sem];rw[rC,show ae { count:=c}=br 124 (nN { count:=c}) from rfl,xw,xw];have fx:ae {}≠#[]:=fun h=>by have:=ib {};rw[h]at this;simp at this
 rw[if_neg fx,if_neg (by simp)];simp only[Sem.run_pure];congr 2
theorem Kp(w:World):(Instr.build 158 #[(1,.bool true)]).run Tryz.prog w=.ok (.agg (ae cO)) w:=by
 unfold Instr.build;rw[Sem.run_bind,bI w];simp[Sem.run_bind,run_underlying Tryz.underlying158,go_sem];have fx:ae {}≠#[]:=fun h=>by have:=ib {};rw[h]at this;simp at this
 rw[rD];simp[cO,fx]
theorem Kq(w:World):(Instr.build 158 #[(0,.int .i64 1),(2,.int .u64 1),(3,.int .u64 1)]).run Tryz.prog w=.ok (.agg (ae { count:=1,first:=1#64,last:=1#64})) w:=by
 unfold Instr.build;rw[Sem.run_bind,bI w];simp[Sem.run_bind,run_underlying Tryz.underlying158,go_sem];have fx:ae {}≠#[]:=fun h=>by have:=ib {};rw[h]at this;simp at this
 have e:(((ae {}).setIfInBounds 0 (.int .i64 1)).setIfInBounds 2 (.int .u64 1)).setIfInBounds 3 (.int .u64 1)=ae { count:=1,first:=1#64,last:=1#64}:=by
  have h0:=rC {} 1;have h1:=rE { count:=1} 1#64;have h2:=tO { count:=1,first:=1#64} 1#64;have e1:UV 1#64=.int .u64 1:=rfl;rw[e1]at h1 h2;rw[<-h2,<-h1,<-h0];rfl
 rw[e];simp[fx]
theorem Oq:(Tryz.prog.info? 155).map (·.size)=some 60:=by kernel_rfl
theorem Kr:(Tryz.prog.info? 156).map (·.size)=some 60:=by kernel_rfl
theorem xx{ops:Array Oper}{rest:List Oper}{o:Oper}{a:Act}{w:World}{Q:Exit->Act->World->Prop}(pR:o.guard=none)(x:Operand)(ho:o.op=.load 155 x)
 (g:Nat) (hx:a.eval x=.pointer (some ⟨g,4,none⟩)) (p:GP) (hg:ah w g (ae p) 158)
 (h:wpList Tryz.prog ops Q rest (a.put o.dst (.agg (br 60 (fun i=>UV (p.next i))))) w):wpList Tryz.prog ops Q (o :: rest) a w:=
 wpList_load_mid pR _ x ho g 4 hx (br 60 (fun i=>UV (p.next i))).toList _ (fun j v hv=>by
  have hj:j<60:=by have:=(List.getElem?_eq_some_iff.1 hv).1;simpa using this
  rw[hg.cell,mu _ _ hj,<-hv,Array.getElem?_toList,b9 _ hj]) Tryz.underlying155 rfl (by simpa using Oq) (by simpa using h)
theorem vw{ops:Array Oper}{rest:List Oper}{o:Oper}{a:Act}{w:World}{Q:Exit->Act->World->Prop}(pR:o.guard=none)(x:Operand)(ho:o.op=.load 156 x)
 (g:Nat) (hx:a.eval x=.pointer (some ⟨g,64,none⟩)) (p:GP) (hg:ah w g (ae p) 158)
 (h:wpList Tryz.prog ops Q rest (a.put o.dst (.agg (br 60 (fun i=>.int .i64 (p.node i:Int))))) w):wpList Tryz.prog ops Q (o :: rest) a w:=
 wpList_load_mid pR _ x ho g 64 hx (br 60 (fun i=>.int .i64 (p.node i:Int))).toList _ (fun j v hv=>by
  have hj:j<60:=by have:=(List.getElem?_eq_some_iff.1 hv).1;simpa using this
  rw[hg.cell,mw _ _ hj,<-hv,Array.getElem?_toList,b9 _ hj]) Tryz.underlying156 rfl (by simpa using Kr) (by simpa using h)
theorem fQ{P:Program}{ops:Array Oper}{rest:List Oper}{o:Oper}{a:Act}{w:World}{Q:Exit->Act->World->Prop}(pR:o.guard=none)(t:TypeId)(parts:Array (Nat×Operand))(ho:o.op=.build t parts)
 (vs:Array (Nat×Value)) (he:(parts.map fun x=>(x.1,a.eval x.2))=vs) (v:Value) (hv:(Instr.build t vs).run P w=.ok v w) (h:wpList P ops Q rest (a.put o.dst v) w):wpList P ops Q (o :: rest) a w:=by
 subst he;refine wpList_plain pR fun K hK=>?_;unfold Oper.wp execOp;simp only[ho,hv,Result.andThen_ok,Sem.run_bind,Sem.run_pure];exact hK _ _ h
theorem tz{ops:Array Oper}{rest:List Oper}{o:Oper}{a:Act}{w:World}{Q:Exit->Act->World->Prop}(pR:o.guard=none)(x y z:Operand)(ho:o.op=.build 158 #[(0,x),(4,y),(5,z)])
 (c:Nat) (ci:Int) (hc:ci=(c:Int)) (p:GP) (hx:a.eval x=.int .i64 ci) (hy:a.eval y=.agg (br 60 (fun i=>UV (p.next i)))) (hz:a.eval z=.agg (br 60 (fun i=>.int .i64 (p.node i:Int))))
 (h:wpList Tryz.prog ops Q rest (a.put o.dst (.agg (ae { count:=c,next:=p.next,node:=p.node}))) w):wpList Tryz.prog ops Q (o :: rest) a w:=
 fQ pR _ _ ho _ (by simp only[List.map_toArray,List.map_cons,List.map_nil,hx,hy,hz,hc]) _ (Ko w c p) h
theorem cH{ops:Array Oper}{rest:List Oper}{o:Oper}{a:Act}{w:World}{Q:Exit->Act->World->Prop}(pR:o.guard=none)(ho:o.op=.build 158 #[(1,.const (.bool true))])
 (h:wpList Tryz.prog ops Q rest (a.put o.dst (.agg (ae cO))) w):wpList Tryz.prog ops Q (o :: rest) a w:=
 fQ pR _ _ ho #[(1,.bool true)] (by simp[Act.eval]) _ (Kp w) h
theorem vx{ops:Array Oper}{rest:List Oper}{o:Oper}{a:Act}{w:World}{Q:Exit->Act->World->Prop}(pR:o.guard=none)(ho:o.op=.build 158 #[(0,.const (.int .i64 1)),(2,.const (.int .u64 1)),(3,.const (.int .u64 1))])
 (h:wpList Tryz.prog ops Q rest (a.put o.dst (.agg (ae { count:=1,first:=1#64,last:=1#64}))) w):wpList Tryz.prog ops Q (o :: rest) a w:=
 fQ pR _ _ ho #[(0,.int .i64 1),(2,.int .u64 1),(3,.int .u64 1)] (by simp[Act.eval]) _ (Kq w) h
def iK(a b:GP)(q:Nat):GP where
 count:=a.count+b.count
 next:=fun s=>if a.count<=s/\s<a.count+q/\s<60 then b.next (s-a.count) <<< a.count else a.next s
 node:=fun s=>if a.count<=s/\s<a.count+q/\s<60 then b.node (s-a.count) else a.node s
def vy(a b:GP)(q:Nat):GP:={iK a b (q+1) with node:=(iK a b q).node}
theorem Ks{a b:GP}{q:Nat}(h:a.count+q<60):(vy a b q).nF { iK a b q with next:=fun j=>if j=a.count+q then b.next q <<< a.count else (iK a b q).next j}:=by
 refine⟨rfl,rfl,rfl,rfl,fun s hs=>?_,fun _ _=>rfl⟩;simp only[vy,iK];by_cases h1:s=a.count+q
 ·subst h1;rw[if_pos ⟨by omega,by omega,hs⟩,if_pos rfl,show a.count+q-a.count=q by omega]
 ·rw[if_neg h1];by_cases h2:a.count<=s/\s<a.count+q/\s<60
  ·rw[if_pos (by omega),if_pos h2]
  ·rw[if_neg (by omega),if_neg h2]
theorem Kt{a b:GP}{q:Nat}(h:a.count+q<60):(iK a b (q+1)).nF { vy a b q with node:=fun j=>if j=a.count+q then b.node q else (vy a b q).node j}:=by
 refine⟨rfl,rfl,rfl,rfl,fun _ _=>rfl,fun s hs=>?_⟩;simp only[vy,iK];by_cases h1:s=a.count+q
 ·subst h1;rw[if_pos ⟨by omega,by omega,hs⟩,if_pos rfl,show a.count+q-a.count=q by omega]
 ·rw[if_neg h1];by_cases h2:a.count<=s/\s<a.count+q/\s<60
  ·rw[if_pos (by omega),if_pos h2]
  ·rw[if_neg (by omega),if_neg h2]
theorem Aw(a b:GP)(hr:a.count+b.count<=60)(w:World):
 aB 200 #[.agg (ae a),.agg (ae b)] w (aL a b):=by
 unfold aB;have hz:=bI;have ca:=MJ a;have cb:=MJ b;have hA:∀o1 o2,ah (((w.alloc (.cells (ae a) 158)).alloc o1).alloc o2) w.heap.size (ae a) 158:=fun o1 o2=>((ah.new _ _ _).alloc _).alloc _;go_enter Tryz.func200,Tryz.ntmps200
 go_wp2_with (first
  | (refine xx rfl (.tmp 12) rfl w.heap.size rfl a (hA _ _) ?_)
  | (refine vw rfl (.tmp 14) rfl w.heap.size rfl a (hA _ _) ?_)
  | (refine tz rfl (.tmp 11) (.tmp 13) (.tmp 15) rfl (a.count+b.count) _ (Int.natCast_add _ _).symm a rfl rfl rfl ?_)
  | (refine ag rfl (.tmp 5) (.tmp 16) rfl (w.heap.size+1+1+1) rfl {} { count:=a.count+b.count,next:=a.next,node:=a.node} (by simp[Act.eval]) (ah.new3 w (.cells (ae a) 158) (.cells (ae b) 158) (.cells (ae {}) 158) (ae {}) 158) ?_
     intro w5 eY mN QN;have b0:ah w5 w.heap.size (ae a) 158:=((hA (.cells (ae b) 158) (.cells (ae {}) 158)).alloc (.cells (ae {}) 158)).kept mN (by simp;omega);have b1:ah w5 (w.heap.size+1) (ae b) 158:=(((ah.oy w (.cells (ae a) 158) (ae b) 158).alloc (.cells (ae {}) 158)).alloc (.cells (ae {}) 158)).kept mN (by simp);have b2:ah w5 (w.heap.size+1+1) (ae {}) 158:=((ah.EZ w (.cells (ae a) 158) (.cells (ae b) 158) (ae {}) 158).alloc (.cells (ae {}) 158)).kept mN (by simp);have k0:Kept [] w w5:=(((((Kept.refl _ _).alloc _).alloc _).alloc _).alloc _).cf mN (by omega)))
 go_loopw [6] (fun iv wr=>∃q:Nat,iv=.int .i64 (q:Int)/\q<=b.count/\ah wr (w.heap.size+1+1+1) (ae (iK a b q)) 158/\ah wr w.heap.size (ae a) 158/\ah wr (w.heap.size+1) (ae b) 158/\ah wr (w.heap.size+1+1) (ae {}) 158/\Kept [] w wr) (fun iv _=>((b.count:Int)-intOf iv).toNat)
 case atStart=>
  have e0:ae (iK a b 0)=ae { count:=a.count+b.count,next:=a.next,node:=a.node}:=jt ⟨rfl,rfl,rfl,rfl,fun i _=>by simp only[iK];rw[if_neg (by omega)],fun i _=>by simp only[iK];rw[if_neg (by omega)]⟩;exact⟨0,rfl,by omega,by rw[e0];exact eY,b0,b1,b2,k0⟩
 case round=>
  obtain⟨q,rfl,hq,d5,d0,d1,d2,dk⟩:=hrel;have c0:wr.cell? ⟨w.heap.size,0,none⟩=some (.int .i64 (a.count:Int)):=by rw[d0.cell,zF]
  have c1:wr.cell? ⟨w.heap.size+1,0,none⟩=some (.int .i64 (b.count:Int)):=by rw[d1.cell,zF]
  have h5:Hid (ah _ _ _ _):=d5;have h0:Hid (ah _ _ _ _):=d0;have h1:Hid (ah _ _ _ _):=d1;have h2:Hid (ah _ _ _ _):=d2;have hk:Hid (Kept _ _ _):=dk;clear ca cb hA hz;by_cases bO:(q:Int)<(b.count:Int)
  ·have tw:q<60:=by omega
   have Ve:a.count+q<60:=by omega
   have c2:wr.cell? ⟨w.heap.size+1,4+q,none⟩=some (UV (b.next q)):=by rw[d1.cell,mu _ _ tw]
   have c3:wr.cell? ⟨w.heap.size+1,64+q,none⟩=some (.int .i64 (b.node q:Int)):=by rw[d1.cell,mw _ _ tw]
   have c4:=d5.cell (4+(a.count+q));rw[mu _ _ Ve]at c4;have c5:=d5.cell (64+(a.count+q));rw[mw _ _ Ve]at c5;have f4:=d5.frozen (4+(a.count+q));have f5:=d5.frozen (64+(a.count+q));have hsh:=Hm (b.next q) a.count;have i1:(a.count:Int)+(q:Int)<60:=by omega
   have i2:((a.count:Int)+(q:Int)).toNat=a.count+q:=by omega
   have n5:Hid (ah _ _ _ _):=((h5.out.drew.set (4+(a.count+q)) (UV (b.next q <<< a.count))).drew.set (64+(a.count+q)) (.int .i64 (b.node q:Int)));rw[tP _ _ _ _ Ve (Ks Ve),tQ _ _ _ _ Ve (Kt Ve)]at n5;clear d5 d0 d1 d2 dk;go_wp2_with fail
   go_region
   go_wp2_with fail
   go_region
   go_wp2
   refine⟨⟨q+1,by go_num,by omega,n5.out,((h0.out.drew.other _ _ (by omega)).drew.other _ _ (by omega)),((h1.out.drew.other _ _ (by omega)).drew.other _ _ (by omega)),((h2.out.drew.other _ _ (by omega)).drew.other _ _ (by omega)),((hk.out.drew.setCell (Or.inr (by simp;omega)) _).drew.setCell (Or.inr (by simp;omega)) _)⟩,?_⟩;simp only[intOf];omega
  ·have p':q=b.count:=by omega
   subst p';clear d5 d0 d1 d2 dk;go_wp2_with (first | (refine ai rfl (.tmp 5) rfl (w.heap.size+1+1+1) rfl _ h5.out ?_) | (refine ag rfl (.tmp 4) (.tmp 54) rfl (w.heap.size+1+1) rfl {} _ rfl h2.out ?_;intro w6 ud hk6 hs6))
   exact bodyPost_ret (v:=.agg (ae (iK a b b.count))) (aS Tryz.results200 _ _ _ _ rfl ud) rfl ⟨rfl,hk.out.cf hk6 (by omega)⟩
end Go.Proofs.YtgifhgnccmnbiabGreatDoor
