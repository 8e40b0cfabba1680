/- The machine: a part of a pattern as plain data: its steps, and the words that it takes. No Go in it. -/
import Derived.Test.YtgifhgnccmnbiabGreatG08
import Derived.WalkSmall
set_option linter.unusedVariables false
set_option linter.unusedSimpArgs false
set_option maxHeartbeats 4000000
set_option maxRecDepth 100000
namespace Go.Proofs.YtgifhgnccmnbiabGreat
abbrev B64:=BitVec 64
theorem bit_or (x y:B64) (i:Nat):(x|||y).getLsbD i=(x.getLsbD i || y.getLsbD i):=BitVec.getLsbD_or
theorem bit_and (x y:B64) (i:Nat):(x&&&y).getLsbD i=(x.getLsbD i&&y.getLsbD i):=BitVec.getLsbD_and
theorem bit_shl (x:B64) (n i:Nat):(x <<< n).getLsbD i=(decide (i<64)&&!decide (i<n)&&x.getLsbD (i-n)):=BitVec.getLsbD_shiftLeft x n
structure GP where
 count:Nat:=0
 empty:Bool:=false
 first:B64:=0#64
 last:B64:=0#64
 next:Nat→B64:=fun _=>0#64
 node:Nat→Nat:=fun _=>0
structure GP.Fit (p:GP):Prop where
 room:p.count≤60
 first:∀i,p.first.getLsbD i=true→i<p.count
 last:∀i,p.last.getLsbD i=true→i<p.count
 next:∀s i,(p.next s).getLsbD i=true→i<p.count
def GP.Run (p:GP):Nat→List Nat→Prop
 | s,[]=>p.last.getLsbD s=true
 | s,d :: r=>(p.next s).getLsbD d=true∧p.Run d r
def GP.Acc (p:GP):List Nat→Prop
 | []=>p.empty=true
 | d :: r=>p.first.getLsbD d=true∧p.Run d r
def GP.Lang (p:GP) (u:List Nat):Prop:=∃l,p.Acc l∧u=l.map p.node
theorem GP.Run.lt {p:GP} (h:p.Fit):∀{s:Nat} {l:List Nat},p.Run s l→∀d,d∈l→d<p.count
 | _,[],_,d,hd=>by cases hd
 | _,e :: r,hr,d,hd=>by
   rcases List.mem_cons.1 hd with rfl | hd
   · exact h.next _ _ hr.1
   · exact GP.Run.lt h hr.2 d hd
theorem GP.Acc.lt {p:GP} (h:p.Fit) {l:List Nat} (hl:p.Acc l):∀d,d∈l→d<p.count:=fun d hd=>by
 cases l with
 | nil=>cases hd
 | cons e r=>
   rcases List.mem_cons.1 hd with rfl | hd
   · exact h.first _ hl.1
   · exact GP.Run.lt h hl.2 d hd
def besideP (a b:GP):GP where
 count:=a.count+b.count
 next:=fun s=>if a.count≤s∧s<a.count+b.count∧s<60 then b.next (s-a.count) <<< a.count else a.next s
 node:=fun s=>if a.count≤s∧s<a.count+b.count∧s<60 then b.node (s-a.count) else a.node s
def linkedP (a:GP) (fr dest:B64):GP:={ a with next:=fun s=>if s<60∧fr.getLsbD s=true then a.next s|||dest else a.next s }
def bothP (a b:GP):GP:=
 linkedP { besideP a b with
  empty:=a.empty&&b.empty
  first:=if a.empty=true then a.first|||b.first <<< a.count else a.first
  last:=if b.empty=true then b.last <<< a.count|||a.last else b.last <<< a.count } a.last (b.first <<< a.count)
def eitherP (a b:GP):GP:=
 { besideP a b with
   empty:=a.empty || b.empty
   first:=a.first|||b.first <<< a.count
   last:=a.last|||b.last <<< a.count }
theorem shl_iff (x:B64) (n i:Nat) (hx:∀j,x.getLsbD j=true→j+n<64):(x <<< n).getLsbD i=true↔n≤i∧x.getLsbD (i-n)=true:=by
 rw [bit_shl]
 simp only [Bool.and_eq_true,decide_eq_true_eq,Bool.not_eq_true',decide_eq_false_iff_not]
 constructor
 · rintro ⟨⟨_,h2⟩,h3⟩;exact ⟨by omega,h3⟩
 · rintro ⟨h1,h2⟩;exact ⟨⟨by have:=hx _ h2;omega,by omega⟩,h2⟩
section
variable {a b:GP} (ha:a.Fit) (hb:b.Fit) (hr:a.count+b.count≤60)
include ha hb hr
theorem both_next_low {s d:Nat} (hs:s<a.count):((bothP a b).next s).getLsbD d=true↔(a.next s).getLsbD d=true∨(a.last.getLsbD s=true∧a.count≤d∧b.first.getLsbD (d-a.count)=true):=by
 have _:=ha
 simp only [bothP,linkedP,besideP]
 rw [if_neg (show ¬(a.count≤s∧s<a.count+b.count∧s<60) by omega)]
 split
 · rename_i h
   rw [bit_or,Bool.or_eq_true,shl_iff _ _ _ (fun j hj=>by have:=hb.first j hj;omega)]
   simp [h.2]
 · rename_i h
   have:¬a.last.getLsbD s=true:=fun hc=>h ⟨by omega,hc⟩
   simp [this]
theorem both_next_high {s d:Nat} (hs:a.count≤s) (hs2:s<a.count+b.count):((bothP a b).next s).getLsbD d=true↔a.count≤d∧(b.next (s-a.count)).getLsbD (d-a.count)=true:=by
 simp only [bothP,linkedP,besideP]
 rw [if_pos (show (a.count≤s∧s<a.count+b.count∧s<60) by omega),if_neg,shl_iff _ _ _ (fun j hj=>by have:=hb.next _ j hj;omega)]
 rintro ⟨_,hc⟩
 have:=ha.last s hc
 omega
theorem both_last {s:Nat}:(bothP a b).last.getLsbD s=true↔(a.count≤s∧b.last.getLsbD (s-a.count)=true)∨(b.empty=true∧a.last.getLsbD s=true):=by
 have _:=ha
 simp only [bothP,linkedP]
 split
 · rename_i h
   rw [bit_or,Bool.or_eq_true,shl_iff _ _ _ (fun j hj=>by have:=hb.last j hj;omega)];simp [h]
 · rename_i h
   rw [shl_iff _ _ _ (fun j hj=>by have:=hb.last j hj;omega)];simp [h]
theorem both_first {s:Nat}:(bothP a b).first.getLsbD s=true↔a.first.getLsbD s=true∨(a.empty=true∧a.count≤s∧b.first.getLsbD (s-a.count)=true):=by
 have _:=ha
 simp only [bothP,linkedP]
 split
 · rename_i h
   rw [bit_or,Bool.or_eq_true,shl_iff _ _ _ (fun j hj=>by have:=hb.first j hj;omega)];simp [h]
 · rename_i h;simp [h]
theorem both_high:∀(l:List Nat) (s:Nat),s<b.count→((bothP a b).Run (s+a.count) l↔∃y,l=y.map (·+a.count)∧b.Run s y)
 | [],s,hs=>by
   simp only [GP.Run]
   rw [both_last ha hb hr]
   constructor
   · rintro (⟨_,h⟩ | ⟨_,h⟩)
     · exact ⟨[],rfl,by simpa [GP.Run] using h⟩
     · have:=ha.last _ h;omega
   · rintro ⟨y,hy,h⟩
     cases y with
     | nil=>exact Or.inl ⟨by omega,by simpa [GP.Run] using h⟩
     | cons=>simp at hy
 | d :: r,s,hs=>by
   simp only [GP.Run]
   rw [both_next_high ha hb hr (by omega) (by omega)]
   rw [show s+a.count-a.count=s by omega]
   constructor
   · rintro ⟨⟨h1,h2⟩,h3⟩
     obtain ⟨e,rfl⟩:∃e,d=e+a.count:=⟨d-a.count,by omega⟩
     rw [show e+a.count-a.count=e by omega] at h2
     obtain ⟨y,rfl,h4⟩:=(both_high r e (hb.next _ _ h2)).1 h3
     exact ⟨e :: y,rfl,h2,h4⟩
   · rintro ⟨y,hy,h⟩
     cases y with
     | nil=>simp at hy
     | cons e y=>
       simp only [List.map_cons,List.cons.injEq] at hy
       obtain ⟨rfl,rfl⟩:=hy
       rw [show e+a.count-a.count=e by omega]
       exact ⟨⟨by omega,h.1⟩,(both_high _ e (hb.next _ _ h.1)).2 ⟨y,rfl,h.2⟩⟩
theorem both_low:∀(l:List Nat) (s:Nat),s<a.count→((bothP a b).Run s l↔∃x y,l=x++y.map (·+a.count)∧a.Run s x∧b.Acc y)
 | [],s,hs=>by
   simp only [GP.Run]
   rw [both_last ha hb hr]
   constructor
   · rintro (⟨h,_⟩ | ⟨h1,h2⟩)
     · omega
     · exact ⟨[],[],rfl,h2,h1⟩
   · rintro ⟨x,y,he,h1,h2⟩
     cases x with
     | cons=>simp at he
     | nil=>
       cases y with
       | cons=>simp at he
       | nil=>exact Or.inr ⟨h2,h1⟩
 | d :: r,s,hs=>by
   simp only [GP.Run]
   rw [both_next_low ha hb hr hs]
   constructor
   · rintro ⟨h1 | ⟨h1,h2,h3⟩,h4⟩
     · obtain ⟨x,y,rfl,h5,h6⟩:=(both_low r d (ha.next _ _ h1)).1 h4
       exact ⟨d :: x,y,rfl,⟨h1,h5⟩,h6⟩
     · obtain ⟨e,rfl⟩:∃e,d=e+a.count:=⟨d-a.count,by omega⟩
       rw [show e+a.count-a.count=e by omega] at h3
       obtain ⟨y,rfl,h5⟩:=(both_high ha hb hr r e (hb.first _ h3)).1 h4
       exact ⟨[],e :: y,rfl,h1,h3,h5⟩
   · rintro ⟨x,y,he,h1,h2⟩
     cases x with
     | nil=>
       cases y with
       | nil=>simp at he
       | cons e y=>
         simp only [List.nil_append,List.map_cons,List.cons.injEq] at he
         obtain ⟨rfl,rfl⟩:=he
         refine ⟨Or.inr ⟨h1,by omega,?_⟩,(both_high ha hb hr _ e (hb.first _ h2.1)).2 ⟨y,rfl,h2.2⟩⟩
         rw [show e+a.count-a.count=e by omega];exact h2.1
     | cons e x=>
       simp only [List.cons_append,List.cons.injEq] at he
       obtain ⟨rfl,rfl⟩:=he
       exact ⟨Or.inl h1.1,(both_low _ d (ha.next _ _ h1.1)).2 ⟨x,y,rfl,h1.2,h2⟩⟩
theorem both_acc (l:List Nat):(bothP a b).Acc l↔∃x y,l=x++y.map (·+a.count)∧a.Acc x∧b.Acc y:=by
 cases l with
 | nil=>
   simp only [GP.Acc]
   constructor
   · intro h
     simp only [bothP,linkedP,Bool.and_eq_true] at h
     exact ⟨[],[],rfl,h.1,h.2⟩
   · rintro ⟨x,y,he,h1,h2⟩
     cases x with
     | cons=>simp at he
     | nil=>
       cases y with
       | cons=>simp at he
       | nil=>simp only [bothP,linkedP,Bool.and_eq_true];exact ⟨h1,h2⟩
 | cons d r=>
   simp only [GP.Acc]
   rw [both_first ha hb hr]
   constructor
   · rintro ⟨h1 | ⟨h1,h2,h3⟩,h4⟩
     · obtain ⟨x,y,rfl,h5,h6⟩:=(both_low ha hb hr r d (ha.first _ h1)).1 h4
       exact ⟨d :: x,y,rfl,⟨h1,h5⟩,h6⟩
     · obtain ⟨e,rfl⟩:∃e,d=e+a.count:=⟨d-a.count,by omega⟩
       rw [show e+a.count-a.count=e by omega] at h3
       obtain ⟨y,rfl,h5⟩:=(both_high ha hb hr r e (hb.first _ h3)).1 h4
       exact ⟨[],e :: y,rfl,h1,h3,h5⟩
   · rintro ⟨x,y,he,h1,h2⟩
     cases x with
     | nil=>
       cases y with
       | nil=>simp at he
       | cons e y=>
         simp only [List.nil_append,List.map_cons,List.cons.injEq] at he
         obtain ⟨rfl,rfl⟩:=he
         refine ⟨Or.inr ⟨h1,by omega,?_⟩,(both_high ha hb hr _ e (hb.first _ h2.1)).2 ⟨y,rfl,h2.2⟩⟩
         rw [show e+a.count-a.count=e by omega];exact h2.1
     | cons e x=>
       simp only [List.cons_append,List.cons.injEq] at he
       obtain ⟨rfl,rfl⟩:=he
       exact ⟨Or.inl h1.1,(both_low ha hb hr _ d (ha.first _ h1.1)).2 ⟨x,y,rfl,h1.2,h2⟩⟩
omit hb in
theorem beside_map_low (x:List Nat) (hx:∀d,d∈x→d<a.count):x.map (besideP a b).node=x.map a.node:=by
 have _:=ha
 have _:=hr
 refine List.map_congr_left fun d hd=>?_
 have:=hx d hd
 simp only [besideP]
 rw [if_neg (by omega)]
omit ha in
theorem beside_map_high (y:List Nat) (hy:∀d,d∈y→d<b.count):(y.map (·+a.count)).map (besideP a b).node=y.map b.node:=by
 have _:=hb
 rw [List.map_map]
 refine List.map_congr_left fun d hd=>?_
 have:=hy d hd
 simp only [besideP,Function.comp]
 rw [if_pos (by omega),show d+a.count-a.count=d by omega]
theorem both_lang (u:List Nat):(bothP a b).Lang u↔∃x y,u=x++y∧a.Lang x∧b.Lang y:=by
 have hn:(bothP a b).node=(besideP a b).node:=rfl
 unfold GP.Lang
 constructor
 · rintro ⟨l,hl,rfl⟩
   obtain ⟨x,y,rfl,h1,h2⟩:=(both_acc ha hb hr l).1 hl
   refine ⟨_,_,?_,⟨x,h1,rfl⟩,⟨y,h2,rfl⟩⟩
   rw [hn,List.map_append,beside_map_low ha hr x (h1.lt ha),beside_map_high hb hr y (h2.lt hb)]
 · rintro ⟨_,_,rfl,⟨x,h1,rfl⟩,⟨y,h2,rfl⟩⟩
   refine ⟨_,(both_acc ha hb hr _).2 ⟨x,y,rfl,h1,h2⟩,?_⟩
   rw [hn,List.map_append,beside_map_low ha hr x (h1.lt ha),beside_map_high hb hr y (h2.lt hb)]
theorem both_fit:(bothP a b).Fit:=by
 refine ⟨hr,fun i h=>?_,fun i h=>?_,fun s i h=>?_⟩
 · show i<a.count+b.count
   rcases (both_first ha hb hr).1 h with h | ⟨_,h1,h2⟩
   · have:=ha.first _ h;omega
   · have:=hb.first _ h2;omega
 · show i<a.count+b.count
   rcases (both_last ha hb hr).1 h with ⟨h1,h2⟩ | ⟨_,h2⟩
   · have:=hb.last _ h2;omega
   · have:=ha.last _ h2;omega
 · show i<a.count+b.count
   by_cases h1:s<a.count
   · rcases (both_next_low ha hb hr h1).1 h with h | ⟨_,h2,h3⟩
     · have:=ha.next _ _ h;omega
     · have:=hb.first _ h3;omega
   · by_cases h2:s<a.count+b.count
     · have h3:=((both_next_high ha hb hr (by omega) h2).1 h).2
       have:=hb.next _ _ h3;omega
     · simp only [bothP,linkedP,besideP] at h
       rw [if_neg (show ¬(a.count≤s∧s<a.count+b.count∧s<60) by omega)] at h
       split at h
       · rename_i h4;have:=ha.last _ h4.2;omega
       · have:=ha.next _ _ h;omega
theorem either_next_low {s:Nat} (hs:s<a.count):(eitherP a b).next s=a.next s:=by
 have _:=ha
 have _:=hb
 have _:=hr
 simp only [eitherP,besideP]
 rw [if_neg (by omega)]
theorem either_next_high {s d:Nat} (hs:s<b.count):((eitherP a b).next (s+a.count)).getLsbD d=true↔a.count≤d∧(b.next s).getLsbD (d-a.count)=true:=by
 have _:=ha
 simp only [eitherP,besideP]
 rw [if_pos (by omega),shl_iff _ _ _ (fun j hj=>by have:=hb.next _ j hj;omega),show s+a.count-a.count=s by omega]
theorem either_last {s:Nat}:(eitherP a b).last.getLsbD s=true↔a.last.getLsbD s=true∨(a.count≤s∧b.last.getLsbD (s-a.count)=true):=by
 have _:=ha
 simp only [eitherP]
 rw [bit_or,Bool.or_eq_true,shl_iff _ _ _ (fun j hj=>by have:=hb.last j hj;omega)]
theorem either_first {s:Nat}:(eitherP a b).first.getLsbD s=true↔a.first.getLsbD s=true∨(a.count≤s∧b.first.getLsbD (s-a.count)=true):=by
 have _:=ha
 simp only [eitherP]
 rw [bit_or,Bool.or_eq_true,shl_iff _ _ _ (fun j hj=>by have:=hb.first j hj;omega)]
theorem either_low:∀(l:List Nat) (s:Nat),s<a.count→((eitherP a b).Run s l↔a.Run s l)
 | [],s,hs=>by
   simp only [GP.Run]
   rw [either_last ha hb hr]
   exact ⟨fun h=>h.elim id (fun h=>by omega),Or.inl⟩
 | d :: r,s,hs=>by
   simp only [GP.Run]
   rw [either_next_low ha hb hr hs]
   exact ⟨fun h=>⟨h.1,(either_low r d (ha.next _ _ h.1)).1 h.2⟩,fun h=>⟨h.1,(either_low r d (ha.next _ _ h.1)).2 h.2⟩⟩
theorem either_high:∀(l:List Nat) (s:Nat),s<b.count→((eitherP a b).Run (s+a.count) l↔∃y,l=y.map (·+a.count)∧b.Run s y)
 | [],s,hs=>by
   simp only [GP.Run]
   rw [either_last ha hb hr]
   constructor
   · rintro (h | ⟨_,h⟩)
     · have:=ha.last _ h;omega
     · exact ⟨[],rfl,by simpa [GP.Run] using h⟩
   · rintro ⟨y,hy,h⟩
     cases y with
     | nil=>exact Or.inr ⟨by omega,by simpa [GP.Run] using h⟩
     | cons=>simp at hy
 | d :: r,s,hs=>by
   simp only [GP.Run]
   rw [either_next_high ha hb hr hs]
   constructor
   · rintro ⟨⟨h1,h2⟩,h3⟩
     obtain ⟨e,rfl⟩:∃e,d=e+a.count:=⟨d-a.count,by omega⟩
     rw [show e+a.count-a.count=e by omega] at h2
     obtain ⟨y,rfl,h4⟩:=(either_high r e (hb.next _ _ h2)).1 h3
     exact ⟨e :: y,rfl,h2,h4⟩
   · rintro ⟨y,hy,h⟩
     cases y with
     | nil=>simp at hy
     | cons e y=>
       simp only [List.map_cons,List.cons.injEq] at hy
       obtain ⟨rfl,rfl⟩:=hy
       rw [show e+a.count-a.count=e by omega]
       exact ⟨⟨by omega,h.1⟩,(either_high _ e (hb.next _ _ h.1)).2 ⟨y,rfl,h.2⟩⟩
theorem either_acc (l:List Nat):(eitherP a b).Acc l↔a.Acc l∨∃y,l=y.map (·+a.count)∧b.Acc y:=by
 cases l with
 | nil=>
   simp only [GP.Acc,eitherP,Bool.or_eq_true]
   constructor
   · rintro (h | h)
     · exact Or.inl h
     · exact Or.inr ⟨[],rfl,h⟩
   · rintro (h | ⟨y,hy,h⟩)
     · exact Or.inl h
     · cases y with
       | nil=>exact Or.inr h
       | cons=>simp at hy
 | cons d r=>
   simp only [GP.Acc]
   rw [either_first ha hb hr]
   constructor
   · rintro ⟨h1 | ⟨h1,h2⟩,h3⟩
     · exact Or.inl ⟨h1,(either_low ha hb hr r d (ha.first _ h1)).1 h3⟩
     · obtain ⟨e,rfl⟩:∃e,d=e+a.count:=⟨d-a.count,by omega⟩
       rw [show e+a.count-a.count=e by omega] at h2
       obtain ⟨y,rfl,h4⟩:=(either_high ha hb hr r e (hb.first _ h2)).1 h3
       exact Or.inr ⟨e :: y,rfl,h2,h4⟩
   · rintro (⟨h1,h2⟩ | ⟨y,hy,h⟩)
     · exact ⟨Or.inl h1,(either_low ha hb hr r d (ha.first _ h1)).2 h2⟩
     · cases y with
       | nil=>simp at hy
       | cons e y=>
         simp only [List.map_cons,List.cons.injEq] at hy
         obtain ⟨rfl,rfl⟩:=hy
         refine ⟨Or.inr ⟨by omega,?_⟩,(either_high ha hb hr _ e (hb.first _ h.1)).2 ⟨y,rfl,h.2⟩⟩
         rw [show e+a.count-a.count=e by omega];exact h.1
theorem either_lang (u:List Nat):(eitherP a b).Lang u↔a.Lang u∨b.Lang u:=by
 have hn:(eitherP a b).node=(besideP a b).node:=rfl
 unfold GP.Lang
 constructor
 · rintro ⟨l,hl,rfl⟩
   rcases (either_acc ha hb hr l).1 hl with h | ⟨y,rfl,h⟩
   · exact Or.inl ⟨l,h,by rw [hn,beside_map_low ha hr l (h.lt ha)]⟩
   · exact Or.inr ⟨y,h,by rw [hn,beside_map_high hb hr y (h.lt hb)]⟩
 · rintro (⟨l,h,rfl⟩ | ⟨y,h,rfl⟩)
   · exact ⟨l,(either_acc ha hb hr l).2 (Or.inl h),by rw [hn,beside_map_low ha hr l (h.lt ha)]⟩
   · exact ⟨_,(either_acc ha hb hr _).2 (Or.inr ⟨y,rfl,h⟩),by rw [hn,beside_map_high hb hr y (h.lt hb)]⟩
theorem either_fit:(eitherP a b).Fit:=by
 refine ⟨hr,fun i h=>?_,fun i h=>?_,fun s i h=>?_⟩
 · show i<a.count+b.count
   rcases (either_first ha hb hr).1 h with h | ⟨h1,h2⟩
   · have:=ha.first _ h;omega
   · have:=hb.first _ h2;omega
 · show i<a.count+b.count
   rcases (either_last ha hb hr).1 h with h2 | ⟨h1,h2⟩
   · have:=ha.last _ h2;omega
   · have:=hb.last _ h2;omega
 · show i<a.count+b.count
   simp only [eitherP,besideP] at h
   split at h
   · have h3:=((shl_iff _ _ _ (fun j hj=>by have:=hb.next _ j hj;omega)).1 h).2
     have:=hb.next _ _ h3
     have:=((shl_iff _ _ _ (fun j hj=>by have:=hb.next _ j hj;omega)).1 h).1
     omega
   · have:=ha.next _ _ h;omega
end
def plusP (a:GP):GP:=linkedP a a.last a.first
section
variable {a:GP} (ha:a.Fit)
include ha
theorem plus_next {s d:Nat}:((plusP a).next s).getLsbD d=true↔(a.next s).getLsbD d=true∨(a.last.getLsbD s=true∧a.first.getLsbD d=true):=by
 simp only [plusP,linkedP]
 split
 · rename_i h
   rw [bit_or,Bool.or_eq_true];simp [h.2]
 · rename_i h
   have:¬a.last.getLsbD s=true:=fun hc=>h ⟨by have:=ha.last _ hc;have:=ha.room;omega,hc⟩
   simp [this]
theorem plus_fit:(plusP a).Fit:=⟨ha.room,ha.first,ha.last,fun s i h=>by
 rcases (plus_next ha).1 h with h | ⟨_,h⟩
 · exact ha.next _ _ h
 · exact ha.first _ h⟩
theorem plus_run:∀(l:List Nat) (s:Nat),(plusP a).Run s l→∃(x:List Nat) (ys:List (List Nat)),l=x++ys.flatten∧a.Run s x∧∀y,y∈ys→a.Acc y
 | [],s,h=>⟨[],[],rfl,h,fun _ h=>(List.not_mem_nil h).elim⟩
 | d :: r,s,h=>by
   obtain ⟨h1,h2⟩:=h
   obtain ⟨x,ys,rfl,h3,h4⟩:=plus_run r d h2
   rcases (plus_next ha).1 h1 with h1 | ⟨h1,h5⟩
   · exact ⟨d :: x,ys,rfl,⟨h1,h3⟩,h4⟩
   · refine ⟨[],(d :: x) :: ys,rfl,h1,fun y hy=>?_⟩
     rcases List.mem_cons.1 hy with rfl | hy
     · exact ⟨h5,h3⟩
     · exact h4 y hy
theorem plus_run_back:∀(ys:List (List Nat)) (x:List Nat) (s:Nat),a.Run s x→(∀y,y∈ys→a.Acc y)→(plusP a).Run s (x++ys.flatten)
 | ys,d :: x,s,h,hy=>⟨(plus_next ha).2 (Or.inl h.1),plus_run_back ys x d h.2 hy⟩
 | [],[],s,h,_=>h
 | [] :: ys,[],s,h,hy=>plus_run_back ys [] s h (fun y hm=>hy y (List.mem_cons_of_mem _ hm))
 | (d :: x) :: ys,[],s,h,hy=>
   have h1:a.Acc (d :: x):=hy _ (List.mem_cons_self ..)
   ⟨(plus_next ha).2 (Or.inr ⟨h,h1.1⟩),plus_run_back ys x d h1.2 (fun y hm=>hy y (List.mem_cons_of_mem _ hm))⟩
termination_by ys x=>(ys.length,x.length)
theorem plus_acc (l:List Nat):(plusP a).Acc l↔∃ys:List (List Nat),ys≠[]∧l=ys.flatten∧∀y,y∈ys→a.Acc y:=by
 constructor
 · intro h
   cases l with
   | nil=>exact ⟨[[]],by simp,rfl,fun y hy=>by simp at hy;subst hy;exact h⟩
   | cons d r=>
     obtain ⟨x,ys,rfl,h3,h4⟩:=plus_run ha r d h.2
     refine ⟨(d :: x) :: ys,by simp,rfl,fun y hy=>?_⟩
     rcases List.mem_cons.1 hy with rfl | hy
     · exact ⟨h.1,h3⟩
     · exact h4 y hy
 · rintro ⟨ys,hne,rfl,hy⟩
   induction ys with
   | nil=>exact absurd rfl hne
   | cons y ys ih=>
     cases y with
     | nil=>
       cases ys with
       | nil=>exact hy _ (List.mem_cons_self ..)
       | cons z zs=>exact ih (by simp) (fun y hm=>hy y (List.mem_cons_of_mem _ hm))
     | cons d x=>
       have h1:a.Acc (d :: x):=hy _ (List.mem_cons_self ..)
       exact ⟨h1.1,plus_run_back ha ys x d h1.2 (fun y hm=>hy y (List.mem_cons_of_mem _ hm))⟩
theorem acc_words (ys:List (List Nat)) (h:∀y,y∈ys→a.Acc y):∀u,u∈ys.map (List.map a.node)→a.Lang u:=fun u hu=>by
 have _:=ha
 obtain ⟨y,hy,rfl⟩:=List.mem_map.1 hu
 exact ⟨y,h y hy,rfl⟩
omit ha in
theorem words_acc:∀us:List (List Nat),(∀u,u∈us→a.Lang u)→∃ys:List (List Nat),us=ys.map (List.map a.node)∧∀y,y∈ys→a.Acc y
 | [],_=>⟨[],rfl,fun _ h=>by cases h⟩
 | u :: us,h=>by
   obtain ⟨ys,rfl,h2⟩:=words_acc us (fun u hu=>h u (List.mem_cons_of_mem _ hu))
   obtain ⟨y,h3,rfl⟩:=h u (List.mem_cons_self ..)
   refine ⟨y :: ys,rfl,fun z hz=>?_⟩
   rcases List.mem_cons.1 hz with rfl | hz
   · exact h3
   · exact h2 z hz
theorem plus_lang (u:List Nat):(plusP a).Lang u↔∃us:List (List Nat),us≠[]∧u=us.flatten∧∀x,x∈us→a.Lang x:=by
 have hn:(plusP a).node=a.node:=rfl
 constructor
 · rintro ⟨l,hl,rfl⟩
   obtain ⟨ys,h1,rfl,h2⟩:=(plus_acc ha l).1 hl
   exact ⟨ys.map (List.map a.node),by simpa using h1,by rw [hn,List.map_flatten],acc_words ha ys h2⟩
 · rintro ⟨us,h1,rfl,h2⟩
   obtain ⟨ys,rfl,h3⟩:=words_acc us h2
   exact ⟨ys.flatten,(plus_acc ha _).2 ⟨ys,by simpa using h1,rfl,h3⟩,by rw [hn,List.map_flatten]⟩
end
def orNone (a:GP):GP:={ a with empty:=true }
theorem orNone_fit {a:GP} (ha:a.Fit):(orNone a).Fit:=⟨ha.room,ha.first,ha.last,ha.next⟩
theorem orNone_run (a:GP):∀(l:List Nat) (s:Nat),(orNone a).Run s l↔a.Run s l
 | [],_=>Iff.rfl
 | d :: r,s=>by simp only [GP.Run,orNone_run a r d];exact Iff.rfl
theorem orNone_lang (a:GP) (u:List Nat):(orNone a).Lang u↔u=[]∨a.Lang u:=by
 constructor
 · rintro ⟨l,hl,rfl⟩
   cases l with
   | nil=>exact Or.inl rfl
   | cons d r=>exact Or.inr ⟨d :: r,⟨hl.1,(orNone_run a r d).1 hl.2⟩,rfl⟩
 · rintro (rfl | ⟨l,hl,rfl⟩)
   · exact ⟨[],rfl,rfl⟩
   · cases l with
     | nil=>exact ⟨[],rfl,rfl⟩
     | cons d r=>exact ⟨d :: r,⟨hl.1,(orNone_run a r d).2 hl.2⟩,rfl⟩
def noneP:GP:={ empty:=true }
theorem noneP_fit:noneP.Fit:=⟨by decide,fun i h=>by simp [noneP] at h,fun i h=>by simp [noneP] at h,fun s i h=>by simp [noneP] at h⟩
theorem noneP_lang (u:List Nat):noneP.Lang u↔u=[]:=by
 constructor
 · rintro ⟨l,hl,rfl⟩
   cases l with
   | nil=>rfl
   | cons d r=>have:=hl.1;simp [noneP] at this
 · rintro rfl;exact ⟨[],rfl,rfl⟩
def oneP (a:GP) (endless:Bool) (least times k:Nat):GP:=
 let one:=if endless=true∧k=times then plusP a else a
 if least<k then orNone one else one
def copiesP (a:GP) (endless:Bool) (least times:Nat):Nat→GP
 | 0=>noneP
 | k+1=>bothP (copiesP a endless least times k) (oneP a endless least times (k+1))
theorem oneP_fit {a:GP} (ha:a.Fit) (e:Bool) (l t k:Nat):(oneP a e l t k).Fit∧(oneP a e l t k).count=a.count:=by
 unfold oneP
 simp only []
 split <;> split
 · exact ⟨orNone_fit (plus_fit ha),rfl⟩
 · exact ⟨orNone_fit ha,rfl⟩
 · exact ⟨plus_fit ha,rfl⟩
 · exact ⟨ha,rfl⟩
theorem copiesP_fit {a:GP} (ha:a.Fit) (e:Bool) (l t:Nat):∀k,k*a.count≤60→(copiesP a e l t k).Fit∧(copiesP a e l t k).count=k*a.count
 | 0,_=>⟨noneP_fit,by simp [copiesP,noneP]⟩
 | k+1,h=>by
   rw [Nat.add_one_mul] at h ⊢
   obtain ⟨h1,h2⟩:=copiesP_fit ha e l t k (by omega)
   obtain ⟨h3,h4⟩:=oneP_fit ha e l t (k+1)
   refine ⟨both_fit h1 h3 (by omega),?_⟩
   show (copiesP a e l t k).count+(oneP a e l t (k+1)).count=_
   omega
def Many (L:List Nat→Prop) (n:Nat) (u:List Nat):Prop:=∃us:List (List Nat),us.length=n∧u=us.flatten∧∀x,x∈us→L x
theorem many_zero (L:List Nat→Prop) (u:List Nat):Many L 0 u↔u=[]:=by
 constructor
 · rintro ⟨us,h1,rfl,_⟩
   rw [List.length_eq_zero_iff.1 h1];rfl
 · rintro rfl;exact ⟨[],rfl,rfl,fun _ h=>by cases h⟩
theorem many_succ (L:List Nat→Prop) (n:Nat) (u:List Nat):Many L (n+1) u↔∃x y,u=x++y∧Many L n x∧L y:=by
 constructor
 · rintro ⟨us,h1,rfl,h2⟩
   have hne:us≠[]:=fun hc=>by rw [hc] at h1;simp at h1
   refine ⟨us.dropLast.flatten,us.getLast hne,?_,⟨us.dropLast,by simp [h1],rfl,fun x hx=>h2 x (List.dropLast_subset _ hx)⟩,h2 _ (List.getLast_mem hne)⟩
   conv=>lhs;rw [←List.dropLast_concat_getLast hne]
   simp
 · rintro ⟨x,y,rfl,⟨us,h1,rfl,h2⟩,h3⟩
   refine ⟨us++[y],by simp [h1],by simp,fun z hz=>?_⟩
   rcases List.mem_append.1 hz with hz | hz
   · exact h2 z hz
   · simp at hz;subst hz;exact h3
theorem many_add (L:List Nat→Prop) (n m:Nat) (x y:List Nat) (hx:Many L n x) (hy:Many L m y):Many L (n+m) (x++y):=by
 obtain ⟨us,h1,rfl,h2⟩:=hx
 obtain ⟨vs,h3,rfl,h4⟩:=hy
 refine ⟨us++vs,by simp [h1,h3],by simp,fun z hz=>?_⟩
 rcases List.mem_append.1 hz with hz | hz
 · exact h2 z hz
 · exact h4 z hz
section
variable {a:GP} (ha:a.Fit)
include ha
theorem copies_lang (e:Bool) (l t:Nat):∀(k:Nat) (_:k*a.count≤60) (_:e=true→k<t) (u:List Nat),(copiesP a e l t k).Lang u↔∃n,(if k≤l then k else l)≤n∧n≤k∧Many a.Lang n u
 | 0,_,_,u=>by
   rw [copiesP,noneP_lang]
   constructor
   · rintro rfl;exact ⟨0,by simp,Nat.le_refl _,(many_zero _ _).2 rfl⟩
   · rintro ⟨n,_,hn,h⟩
     obtain rfl:n=0:=by omega
     exact (many_zero _ _).1 h
 | k+1,hk,he,u=>by
   rw [Nat.add_one_mul] at hk
   obtain ⟨h1,h2⟩:=copiesP_fit ha e l t k (by omega)
   obtain ⟨h3,h4⟩:=oneP_fit ha e l t (k+1)
   rw [copiesP,both_lang h1 h3 (by omega)]
   have ih:=copies_lang e l t k (by omega) (fun h=>by have:=he h;omega)
   have hone:∀y,(oneP a e l t (k+1)).Lang y↔(l<k+1∧y=[])∨a.Lang y:=fun y=>by
    unfold oneP
    simp only []
    rw [if_neg (show ¬(e=true∧k+1=t) from fun hc=>by have:=he hc.1;omega)]
    split
    · rename_i h;rw [orNone_lang];simp [h]
    · rename_i h;simp [h]
   constructor
   · rintro ⟨x,y,rfl,hx,hy⟩
     obtain ⟨n,h5,h6,h7⟩:=(ih x).1 hx
     rcases (hone y).1 hy with ⟨h8,rfl⟩ | h8
     · refine ⟨n,?_,by omega,by simpa using h7⟩
       rw [if_neg (by omega)];split at h5 <;> omega
     · refine ⟨n+1,?_,by omega,(many_succ _ _ _).2 ⟨x,y,rfl,h7,h8⟩⟩
       split at h5 <;> split <;> omega
   · rintro ⟨n,h5,h6,h7⟩
     by_cases hn:n≤k∧l<k+1
     · refine ⟨u,[],by simp,(ih u).2 ⟨n,?_,hn.1,h7⟩,(hone _).2 (Or.inl ⟨hn.2,rfl⟩)⟩
       rw [if_neg (by omega)] at h5
       split <;> omega
     · obtain ⟨m,rfl⟩:∃m,n=m+1:=⟨n-1,by split at h5 <;> omega⟩
       obtain ⟨x,y,rfl,h8,h9⟩:=(many_succ _ _ _).1 h7
       refine ⟨x,y,rfl,(ih x).2 ⟨m,?_,by omega,h8⟩,(hone y).2 (Or.inr h9)⟩
       split at h5 <;> split <;> omega
theorem upto_lang (l t:Nat) (ht:t*a.count≤60) (hl:l≤t) (u:List Nat):(copiesP a false l t t).Lang u↔∃n,l≤n∧n≤t∧Many a.Lang n u:=by
 rw [copies_lang ha false l t t ht (fun h=>by cases h)]
 constructor
 · rintro ⟨n,h1,h2,h3⟩;exact ⟨n,by split at h1 <;> omega,h2,h3⟩
 · rintro ⟨n,h1,h2,h3⟩;exact ⟨n,by split <;> omega,h2,h3⟩
theorem endless_lang (l:Nat) (ht:(if l<1 then 1 else l)*a.count≤60) (u:List Nat):(copiesP a true l (if l<1 then 1 else l) (if l<1 then 1 else l)).Lang u↔∃n,l≤n∧Many a.Lang n u:=by
 obtain ⟨k,hk⟩:∃k,(if l<1 then 1 else l)=k+1:=⟨(if l<1 then 1 else l)-1,by split <;> omega⟩
 rw [hk] at ht ⊢
 rw [Nat.add_one_mul] at ht
 obtain ⟨h1,h2⟩:=copiesP_fit ha true l (k+1) k (by omega)
 obtain ⟨h3,h4⟩:=oneP_fit ha true l (k+1) (k+1)
 rw [copiesP,both_lang h1 h3 (by omega)]
 have ih:=copies_lang ha true l (k+1) k (by omega) (fun _=>by omega)
 have hone:∀y,(oneP a true l (k+1) (k+1)).Lang y↔(l<k+1∧y=[])∨∃n,1≤n∧Many a.Lang n y:=fun y=>by
  have hp:(plusP a).Lang y↔∃n,1≤n∧Many a.Lang n y:=by
   rw [plus_lang ha]
   constructor
   · rintro ⟨us,h5,rfl,h6⟩
     exact ⟨us.length,by have:=List.length_pos_iff.2 h5;omega,us,rfl,rfl,h6⟩
   · rintro ⟨n,h5,us,rfl,rfl,h6⟩
     exact ⟨us,List.length_pos_iff.1 (by omega),rfl,h6⟩
  unfold oneP
  simp only []
  rw [if_pos (show True∧True from ⟨trivial,trivial⟩)]
  split
  · rename_i h;rw [orNone_lang,hp];simp [h]
  · rename_i h;rw [hp];simp [h]
 constructor
 · rintro ⟨x,y,rfl,hx,hy⟩
   obtain ⟨n,h5,h6,h7⟩:=(ih x).1 hx
   rcases (hone y).1 hy with ⟨h8,rfl⟩ | ⟨m,h8,h9⟩
   · refine ⟨n,?_,by simpa using h7⟩
     by_cases h0:l<1
     · omega
     · rw [if_neg h0] at hk;omega
   · refine ⟨n+m,?_,many_add _ _ _ _ _ h7 h9⟩
     by_cases h0:l<1
     · omega
     · rw [if_neg h0] at hk;split at h5 <;> omega
 · rintro ⟨n,h5,h6⟩
   obtain ⟨us,h7,rfl,h8⟩:=h6
   have hkn:k≤n:=by
    by_cases h0:l<1
    · rw [if_pos h0] at hk;omega
    · rw [if_neg h0] at hk;omega
   refine ⟨(us.take k).flatten,(us.drop k).flatten,by rw [←List.flatten_append,List.take_append_drop],(ih _).2 ⟨k,?_,Nat.le_refl _,us.take k,by simp [h7];omega,rfl,fun x hx=>h8 x (List.mem_of_mem_take hx)⟩,(hone _).2 ?_⟩
   · split <;> omega
   · by_cases hz:n=k
     · left
       constructor
       · by_cases h0:l<1
         · omega
         · rw [if_neg h0] at hk;omega
       · rw [List.drop_of_length_le (by omega)];rfl
     · right
       exact ⟨n-k,by omega,us.drop k,by simp [h7],rfl,fun x hx=>h8 x (List.mem_of_mem_drop hx)⟩
end
end Go.Proofs.YtgifhgnccmnbiabGreat
namespace Go.Proofs.YtgifhgnccmnbiabGreat
open Go.RowKit Go.IntWalk
abbrev UV (s:B64):Value:=.int .u64 (s.toNat:Int)
theorem wrap_u (n:Nat) (h:n<18446744073709551616):IntKind.wrap .u64 (n:Int)=(n:Int):=by
 simp only [IntKind.wrap,IntKind.signed,IntKind.bits]
 simp
 omega
theorem or_u (x y:B64):bits .or .u64 (x.toNat:Int) (y.toNat:Int)=((x|||y).toNat:Int):=by
 show IntKind.wrap .u64 ((BitVec.ofInt 64 (x.toNat:Int)|||BitVec.ofInt 64 (y.toNat:Int)).toNat:Int)=_
 rw [BitVec.ofInt_natCast,BitVec.ofInt_natCast,BitVec.ofNat_toNat,BitVec.ofNat_toNat,BitVec.setWidth_eq,BitVec.setWidth_eq]
 exact wrap_u _ (x|||y).isLt
theorem and_u (x y:B64):bits .and .u64 (x.toNat:Int) (y.toNat:Int)=((x&&&y).toNat:Int):=by
 show IntKind.wrap .u64 ((BitVec.ofInt 64 (x.toNat:Int)&&&BitVec.ofInt 64 (y.toNat:Int)).toNat:Int)=_
 rw [BitVec.ofInt_natCast,BitVec.ofInt_natCast,BitVec.ofNat_toNat,BitVec.ofNat_toNat,BitVec.setWidth_eq,BitVec.setWidth_eq]
 exact wrap_u _ (x&&&y).isLt
theorem shl_u (x:B64) (n:Nat):IntKind.wrap .u64 ((x.toNat:Int)*2 ^ n)=((x <<< n).toNat:Int):=by
 rw [BitVec.toNat_shiftLeft,Nat.shiftLeft_eq]
 simp only [IntKind.wrap,IntKind.signed,IntKind.bits]
 simp
theorem u_zero (x:B64):((x.toNat:Int)=0)↔x=0#64:=by
 constructor
 · intro h;apply BitVec.eq_of_toNat_eq;simp;omega
 · rintro rfl;rfl
theorem u_none (x:B64):x=0#64↔∀i,x.getLsbD i=false:=by
 constructor
 · rintro rfl i;simp
 · intro h;apply BitVec.eq_of_getLsbD_eq;intro i hi;simp [h i]
def cellsF (n:Nat) (f:Nat→Value):Array Value:=((List.range n).map f).toArray
@[simp] theorem cellsF_size (n:Nat) (f:Nat→Value):(cellsF n f).size=n:=by simp [cellsF]
theorem cellsF_get {n:Nat} (f:Nat→Value) {i:Nat} (h:i<n):(cellsF n f)[i]?=some (f i):=by simp [cellsF,h]
theorem cellsF_set {n:Nat} (f f':Nat→Value) (i:Nat) (v:Value) (h:∀j,j<n→f' j=if j=i then v else f j):(cellsF n f).setIfInBounds i v=cellsF n f':=by
 apply Array.ext
 · simp [cellsF]
 · intro j h1 h2
   have hj:j<n:=by simpa [cellsF] using h2
   rw [Array.getElem_setIfInBounds (by simpa [cellsF] using hj)]
   simp only [cellsF,List.getElem_toArray,List.getElem_map,List.getElem_range]
   rw [h j hj]
   by_cases hij:i=j
   · subst hij;simp
   · rw [if_neg hij,if_neg (fun hc=>hij hc.symm)]
theorem cellsF_congr {n:Nat} {f f':Nat→Value} (h:∀j,j<n→f j=f' j):cellsF n f=cellsF n f':=by
 apply Array.ext
 · simp [cellsF]
 · intro j h1 h2
   simp only [cellsF,List.getElem_toArray,List.getElem_map,List.getElem_range]
   exact h j (by simpa [cellsF] using h1)
theorem cellsF_one {n:Nat} {f:Nat→Value} (h:∀j,j<n→(f j).oneCell'=true):(cellsF n f).all (·.oneCell')=true:=by
 rw [Array.all_eq_true_iff_forall_mem]
 intro v hv
 simp only [cellsF,List.mem_toArray,List.mem_map,List.mem_range] at hv
 obtain ⟨j,hj,rfl⟩:=hv
 exact h j hj
theorem shr_bit (s:B64) (i:Nat):((s.toNat:Int) / 2 ^ i % 2=1)↔s.getLsbD i=true:=by
 rw [BitVec.getLsbD,Nat.testBit_eq_decide_div_mod_eq,decide_eq_true_eq]
 have h2:((s.toNat / 2 ^ i % 2:Nat):Int)=(s.toNat:Int) / 2 ^ i % 2:=by simp
 constructor
 · intro h;rw [←h2] at h;omega
 · intro h;rw [←h2,h];rfl
theorem has_any (s:B64) (i:Nat) (hi:i<64) (w:World):
 Calls Tryz.prog 69 #[.int .u64 (s.toNat:Int),.int .i64 (i:Int)] w fun e w'=>e=.returned (.bool (s.getLsbD i))∧w'=w:=by
 have hb:=shr_bit s i
 have h0:(0:Int)≤(s.toNat:Int) / 2 ^ i:=Int.ediv_nonneg (by omega) (Int.pow_nonneg (by decide))
 have h1:(s.toNat:Int) / 2 ^ i≤18446744073709551615:=Int.le_trans (Int.ediv_le_self _ (by omega)) (by have:=s.isLt;omega)
 have h2:Hid (bits .and .u64 ((s.toNat:Int) / 2 ^ i) 1=(s.toNat:Int) / 2 ^ i % 2):=and_one_u64 _ h0 h1
 clear h0 h1
 have h3:Hid ((bits .and .u64 ((s.toNat:Int) / 2 ^ i) 1==1)=s.getLsbD i):=by
  show (_==_)=_
  rw [h2.out,Bool.eq_iff_iff,beq_iff_eq]
  exact hb
 clear hb h2
 go_enter Tryz.func69,Tryz.ntmps69
 go_wp2
 rw [h3.out]
 go_ret
 exact ⟨rfl,rfl⟩
end Go.Proofs.YtgifhgnccmnbiabGreat
