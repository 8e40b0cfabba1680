/- For every options, every pattern and every file both sides of the law Greps tell the same text and the same error: no condition but that the listed tables read as the program's own text lays them, which the tie pays; nothing that was there before the call is changed. -/
import Derived.Test.YtgifhgnccmnbiabGreatDoorG28
import Derived.Test.YtgifhgnccmnbiabGreatDoorCards
import Derived.Test.YtgifhgnccmnbiabGreatDoorTie
import Derived.ProofKit
import Derived.OpenShut
import Derived.ShutString
set_option linter.unusedVariables false
set_option linter.unusedSimpArgs false
set_option maxHeartbeats 4000000
set_option maxRecDepth 100000
namespace Go.Proofs.YtgifhgnccmnbiabGreatDoor.Mv
open Go.ChangeShapes Go.WideShapes Go.ChangeAt Go.RowKit
open Go.ChangeMaps (open_string shut_string)
theorem own:ownKnob Tryz.prog.godebug=none:=by kernel_rfl
theorem lifted(os:Os)(started:os.Started)(H:Type)(enc:TypeId×Value->H):
 ReturnsInHanded {} Tryz.checked os 3 .any (fun w args=>(Rows.grepsSpec.pre enc Tryz.prog Tryz.f3 Rows.grepsRow.domain false w args/\laidMetH Tryz.prog Rows.alikeRow.laid w)/\sizedMet enc Tryz.prog Tryz.f3 (OpenSpec.ofChange Rows.grepsSpec) false w args) (Rows.grepsSpec.post enc Tryz.prog Tryz.f3 false true false false):=by
 refine returnsInHanded_of_change_and (C:=Tryz.checked) (X:=fun w _=>laidMetH Tryz.prog Rows.alikeRow.laid w) (fun _ _ _ hh h=>h.of_heap hh) own started (by kernel_rfl) Tryz.func3
  (ChangeSpec.witness_at (enc:=enc) (C:=Tryz.checked) (os:=os) (X:=fun w _=>laidMetH Tryz.prog Rows.alikeRow.laid w) false (EE os) #[.agg #[.bool false,.bool false,.bool false,.bool false,.int .i64 0],.string ByteArray.empty,.string ByteArray.empty] 8 rfl (by kernel_rfl) (by kernel_rfl) (by kernel_rfl) (by kernel_rfl) (by kernel_rfl) (Db os _)) ?_
 intro W base args ds gs before Yg hW _ _ hL _;have QF:∀(j:Nat) t v,Tryz.f3.params[j]?=some t->args[j]?=some v->Value.okWide Tryz.prog W .any base t v:=Yg;have hW':=hW;obtain⟨p,q,hA0,hV,rfl,hfz,HA⟩:=hW;have hA:DataW.TrodAll enc Tryz.prog W 0 (fun _=>true) true Tryz.f3.params.toList args.toList ds p:=hA0;rw[Tryz.params3]at hA QF;obtain⟨v0,vs0,d0,ds0,p0,q0,hargs,rfl,rfl,h0,r0⟩:=trodAll_cons hA;obtain⟨v1,vs1,d1,ds1,p1,q1,rfl,rfl,rfl,h1,r1⟩:=trodAll_cons r0;obtain⟨v2,vs2,d2,ds2,p2,q2,rfl,rfl,rfl,h2,r2⟩:=trodAll_cons r1;obtain⟨rfl,rfl,rfl⟩:=trodAll_nil r2;obtain rfl:args=#[v0,v1,v2]:=by cases args;simp_all
 obtain⟨rfl,rfl⟩:=trodVars_none hV;obtain⟨inv,fold,whole,num,mx,rfl,rfl,rfl,wm⟩:=Gk (QF 0 23 v0 rfl rfl) h0;obtain⟨a1,rfl,rfl,rfl,w1⟩:=open_string Tryz.underlying9 (QF 1 9 v1 rfl rfl) h1;obtain⟨a2,rfl,rfl,rfl,w2⟩:=open_string Tryz.underlying9 (QF 2 9 v2 rfl rfl) h2;clear hA0 Yg;simp only[List.append_nil]at hW';refine(QE inv fold whole num mx a1 a2 W (Gm hL) (bounds_i64 wm).1 (bounds_i64 wm).2 w1 w2).mono fun e W' ⟨he,JG⟩=>?_;subst he;exact⟨_,rfl,_,_,_,[],_,[],hW',trodAll_mk1 (shut_bool Tryz.underlying4 _),(trodAll_cons_mk (Gl inv fold whole num wm) (trodAll_cons_mk (shut_string Tryz.underlying9 w1) (trodAll_cons_mk (shut_string Tryz.underlying9 w2) trodAll_mk0))),rfl,JG.frame _,fun h=>by cases h⟩
theorem over:Rows.grepsRow.holds Tryz.pinned (OpenSpec.ofChange Rows.grepsSpec):=
 OpenClaim.holds_of_wide 3 Tryz.f3 rfl rfl rfl rfl rfl rfl rfl ⟨rfl,rfl,rfl,rfl,rfl⟩ rfl rfl rfl rfl rfl (by kernel_rfl) Tryz.func3 (by kernel_rfl)
  (of_decide_eq_true (by kernel_rfl)) (by unfold Func.isWrapper;first | (rw[if_pos (by decide +kernel)];kernel_rfl) | (rw[if_neg (by decide +kernel)];exact⟨rfl,rfl⟩))
  (fun os started H enc _=>lifted os started H enc)
theorem Va:∀(j:Nat) t,Tryz.f3.params[j]?=some t->Tryz.prog.wantsStandIn t=false:=fun j t ht=>by
 have h:(Tryz.f3.params.toList.all fun t=>!Tryz.prog.wantsStandIn t)=true:=by kernel_rfl
 have hm:t∈Tryz.f3.params.toList:=Array.mem_toList_iff.2 (Array.mem_of_getElem? ht);have:=List.all_eq_true.1 h t hm;simpa using this
end Go.Proofs.YtgifhgnccmnbiabGreatDoor.Mv
namespace Go.Proofs.YtgifhgnccmnbiabGreatDoor
theorem greps_card_holds:Rows.GrepsCardSaid:=
 Claim7.holds_tied_plain_at .later [] [.data,.data,.data] true Rows.grepsCard.stood.harness false
  Mv.over (fun _ h=>by cases h) (by kernel_rfl) (fun _ h=>by cases h) greps_row_tie rfl ⟨rfl,rfl⟩ (by kernel_rfl) rfl
  (fun f fn hf Xo=>by
    obtain rfl:f=3:=Option.some.inj (hf.symm.trans (show Tryz.prog.funcNamed Rows.grepsRow.func=some 3 by kernel_rfl));obtain rfl:fn=Tryz.f3:=(Option.some.inj (Tryz.func3.symm.trans Xo)).symm;exact⟨by kernel_rfl,Mv.Va⟩)
  (by kernel_rfl)
#print axioms greps_card_holds
end Go.Proofs.YtgifhgnccmnbiabGreatDoor
