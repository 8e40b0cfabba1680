/- The tables that the rows list: from the rows' condition to the table that Itoa reads; a world that meets the condition. -/
import Derived.Test.YtgifhgnccmnbiabGreatDoorG20
import Derived.LaidHandle
import Derived.Lib.LaidTab
set_option linter.unusedVariables false
namespace Go.Proofs.YtgifhgnccmnbiabGreatDoor
open Go

theorem tab_of_vars {P : Program} {W : World} {name : String} {k : IntKind} {zs : List Int} {rest : List (String × DataW Unit)} {ps : List MemPlace} {g : Nat} {t e : TypeId} {n : Nat}
    (hg : P.globalNamed name = some g) (hty : (P.globals[g]?).map (·.type) = some t) (ht : P.underlying t = some (.array n e)) (he : P.underlying e = some (.int k)) (hce : P.cellsOf e = 1) (hct : P.cellsOf t = n)
    (h : DataW.LaidVars P W ((name, Lib.tabData k zs) :: rest) ps) : Lib.TabIs P W name k zs := by
  obtain ⟨g', t', cs, fuel, p, q, hg', ht', hvar, hd, _, _⟩ := h
  obtain rfl := Option.some.inj (hg.symm.trans hg')
  obtain rfl := Option.some.inj (hty.symm.trans ht')
  unfold Lib.TabIs
  rw [hvar, ← Lib.cells_of_tab ht he hce hct hd]
theorem vars_tail {P : Program} {W : World} {x : String × DataW Unit} {rest : List (String × DataW Unit)} {ps : List MemPlace} (h : DataW.LaidVars P W (x :: rest) ps) : ∃ q, DataW.LaidVars P W rest q := by
  obtain ⟨g', t', cs, fuel, p, q, _, _, _, _, h5, _⟩ := h
  exact ⟨q, h5⟩
/-- The block and the type of the table. -/
noncomputable def powG : Nat := (Tryz.prog.globalNamed powN).getD 0
noncomputable def powT : TypeId := ((Tryz.prog.globals[powG]?).map (·.type)).getD 0
theorem tabP_of_laid {W : World} (h : laidMetH Tryz.prog Rows.alikeRow.laid W) : TabP W := by
  have h' : laidMet Tryz.prog Rows.alikeRow.laid W := h
  obtain ⟨ps, hv, _⟩ := h'
  obtain ⟨q1, h1⟩ := vars_tail hv
  obtain ⟨q2, h2⟩ := vars_tail h1
  exact tab_of_vars (g := powG) (t := powT) (n := 20) (e := 56) (by kernel_rfl) (by kernel_rfl) (by kernel_rfl) (by kernel_rfl) (by kernel_rfl) (by kernel_rfl) h2

/-- The cells of a listed table. -/
def cellsD : DataW Unit → Array Value
  | .agg l => (l.filterMap fun d => match d with | .lit (.int k n) => some (.int k n) | _ => none).toArray
  | _ => #[]
/-- A world that meets the condition: the settled one, the tables' cells laid. -/
noncomputable def laidWorld (os : Os) : World :=
  let w0 := World.holding Tryz.prog os ⟨#[], #[], []⟩
  { w0 with heap := Rows.alikeRow.laid.foldl (fun h x => h.modify ((Tryz.prog.globalNamed x.1).getD 0) fun
      | .cells _ t frozen => .cells (cellsD x.2) t frozen
      | o => o) w0.heap }
set_option maxRecDepth 100000 in
theorem laidWorld_met (os : Os) (args : Array Value) : laidMetH Tryz.prog Rows.alikeRow.laid ((laidWorld os).forCall (fun _ _ => 0) ⟨#[], args, []⟩).memory :=
  laidMetH_of_parts (laidMet_of_run' 8 (by kernel_rfl) (by kernel_rfl)) (by kernel_rfl)

end Go.Proofs.YtgifhgnccmnbiabGreatDoor
