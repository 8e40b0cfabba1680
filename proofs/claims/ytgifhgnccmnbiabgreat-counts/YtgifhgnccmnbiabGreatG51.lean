/- The options, a struct by value, as an argument: opened and shut. -/
import Derived.Test.YtgifhgnccmnbiabGreatG01
import Derived.ProofKit
import Derived.OpenShut
import Derived.ShutString
import Derived.ChangeSame
set_option linter.unusedVariables false
set_option linter.unusedSimpArgs false
set_option maxHeartbeats 4000000
set_option maxRecDepth 100000
namespace Go.Proofs.YtgifhgnccmnbiabGreat
open Go.ChangeShapes Go.WideShapes Go.ChangeAt Go.RowKit
theorem optCells:Tryz.prog.cellsOf 23=5:=by kernel_rfl
theorem boolCell:Tryz.prog.cellsOf 4=1:=by kernel_rfl
theorem intCell:Tryz.prog.cellsOf 3=1:=by kernel_rfl
section
variable {H:Type} {enc:TypeId×Value→H} {w:World} {base:Nat} {spare:Nat→Bool} {held:Bool}
theorem open_options {r:Reach} {b0:Nat} {v:Value} {d:DataW H} {ps:List MemPlace} (hval:Value.okWide Tryz.prog w r b0 23 v) (hd:DataW.Trod enc Tryz.prog w base spare held 23 v d ps):
 ∃(i f wh nu:Bool) (mx:Int),v=.agg #[.bool i,.bool f,.bool wh,.bool nu,.int .i64 mx]∧d=.agg [.lit (.bool i),.lit (.bool f),.lit (.bool wh),.lit (.bool nu),.lit (.int .i64 mx)]∧ps=[]∧(Lit.int .i64 mx).wf=true:=by
 obtain ⟨cs,rfl,hsz⟩:=okWide_struct Tryz.underlying23 hval
 rw [optCells] at hsz
 obtain ⟨l⟩:=cs
 match l,hsz with
 | [c0,c1,c2,c3,c4],_=>
 obtain ⟨fuel,hf⟩:=hd
 obtain ⟨xs,n,_,hx,_,hlen,hall⟩:=DataW.trod_struct Tryz.underlying23 hf
 match xs,hlen with
 | [y0,y1,y2,y3,y4],_=>
 have g0:DataW.trod enc Tryz.prog w base spare held n 4 [c0]=some y0:=by
  have h:DataW.trod enc Tryz.prog w base spare held n 4 (([c0,c1,c2,c3,c4].drop 0).take (Tryz.prog.cellsOf 4))=some y0:=hall 0 _ rfl
  rw [boolCell] at h
  exact h
 have g1:DataW.trod enc Tryz.prog w base spare held n 4 [c1]=some y1:=by
  have h:DataW.trod enc Tryz.prog w base spare held n 4 (([c0,c1,c2,c3,c4].drop 1).take (Tryz.prog.cellsOf 4))=some y1:=hall 1 _ rfl
  rw [boolCell] at h
  exact h
 have g2:DataW.trod enc Tryz.prog w base spare held n 4 [c2]=some y2:=by
  have h:DataW.trod enc Tryz.prog w base spare held n 4 (([c0,c1,c2,c3,c4].drop 2).take (Tryz.prog.cellsOf 4))=some y2:=hall 2 _ rfl
  rw [boolCell] at h
  exact h
 have g3:DataW.trod enc Tryz.prog w base spare held n 4 [c3]=some y3:=by
  have h:DataW.trod enc Tryz.prog w base spare held n 4 (([c0,c1,c2,c3,c4].drop 3).take (Tryz.prog.cellsOf 4))=some y3:=hall 3 _ rfl
  rw [boolCell] at h
  exact h
 have g4:DataW.trod enc Tryz.prog w base spare held n 3 [c4]=some y4:=by
  have h:DataW.trod enc Tryz.prog w base spare held n 3 (([c0,c1,c2,c3,c4].drop 4).take (Tryz.prog.cellsOf 3))=some y4:=hall 4 _ rfl
  rw [intCell] at h
  exact h
 obtain ⟨b0',e0,rfl⟩:=DataW.trod_bool Tryz.underlying4 g0
 obtain ⟨b1',e1,rfl⟩:=DataW.trod_bool Tryz.underlying4 g1
 obtain ⟨b2',e2,rfl⟩:=DataW.trod_bool Tryz.underlying4 g2
 obtain ⟨b3',e3,rfl⟩:=DataW.trod_bool Tryz.underlying4 g3
 obtain ⟨m,e4,rfl,wm⟩:=DataW.trod_int Tryz.underlying3 g4
 simp only [List.cons.injEq,and_true] at e0 e1 e2 e3 e4
 subst e0 e1 e2 e3 e4
 simp only [Prod.mk.injEq] at hx
 obtain ⟨rfl,rfl⟩:=hx
 exact ⟨_,_,_,_,_,rfl,rfl,rfl,wm⟩
theorem shut_options (i f wh nu:Bool) {mx:Int} (hm:(Lit.int .i64 mx).wf=true):
 DataW.Trod enc Tryz.prog w base spare held 23 (.agg #[.bool i,.bool f,.bool wh,.bool nu,.int .i64 mx]) (.agg [.lit (.bool i),.lit (.bool f),.lit (.bool wh),.lit (.bool nu),.lit (.int .i64 mx)]) []:=⟨2,by
 have fb:∀b:Bool,DataW.trod enc Tryz.prog w base spare held 1 4 [.bool b]=some (.lit (.bool b),[]):=fun b=>by simp [DataW.trod,Tryz.underlying4]
 have fi:DataW.trod enc Tryz.prog w base spare held 1 3 [.int .i64 mx]=some (.lit (.int .i64 mx),[]):=by simp [DataW.trod,Tryz.underlying3,hm]
 have:=trod_struct_mk (enc:=enc) (w:=w) (base:=base) (spare:=spare) (held:=held) (n:=1) (cs:=[.bool i,.bool f,.bool wh,.bool nu,.int .i64 mx])
  (xs:=[(.lit (.bool i),[]),(.lit (.bool f),[]),(.lit (.bool wh),[]),(.lit (.bool nu),[]),(.lit (.int .i64 mx),[])]) Tryz.underlying23 (by simp [optCells]) (by simp [boolCell,intCell,fb,fi])
 simpa [Value.cells] using this⟩
end
end Go.Proofs.YtgifhgnccmnbiabGreat
