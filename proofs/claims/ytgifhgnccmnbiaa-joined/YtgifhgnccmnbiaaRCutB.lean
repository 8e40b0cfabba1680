/- The document's answer: the bytes between two places of a text, walked. -/
import Derived.Test.YtgifhgnccmnbiaaRCut
set_option linter.unusedVariables false
set_option linter.unusedSimpArgs false
namespace Go.Proofs.Ytgifhgnccmnbiaa
open Go.RowKit Go.IntWalk

/-- What the loop over the symbols keeps. -/
structure BytesLoop (w0 w : World) (b : Nat) (kv nv : Value) (rl top : List Nat) (ps : List PI) (rv tv pv : Value) (T : List (List Nat)) (fr dst q : Nat) (v : Value) : Prop where
  g : GRd w b kv nv rl top ps rv tv pv
  out : RcOut w0 w w0.heap.size v (cutI ((top.take q).flatMap (symT T)) (fr : Int) (dst : Int))

set_option maxHeartbeats 4000000 in
set_option maxRecDepth 100000 in
theorem rbytes_any {T : List (List Nat)} {rl top : List Nat} {ps : List PI} (hS : RSound rl ps T) (hT : T.length ≤ 1000) (hst : ∀ s, s ∈ top → s < 256 + T.length) (hX : (top.flatMap (symT T)).length ≤ 1099511627776) (hN : top.length ≤ 100000000) (hby : ∀ c, c ∈ top.flatMap (symT T) → c < 256)
    {b : Nat} {kv nv rv tv pv : Value} {fr dst : Nat} (hfd : fr ≤ dst) (hd : dst ≤ 1099511627776) (w : World) (hG : GRd w b kv nv rl top ps rv tv pv) :
    Calls Try.prog 53 #[.pointer (some ⟨b, 0, none⟩), .int .i64 (fr : Int), .int .i64 (dst : Int)] w fun e w' => e = .returned (.string (bytesB (cutI (top.flatMap (symT T)) (fr : Int) (dst : Int)))) ∧ Below w.heap.size w w' := by
  have h0 : Hid (BytesLoop w w b kv nv rl top ps rv tv pv T fr dst 0 (.slice none 0 0)) := ⟨hG, ⟨Below.refl _ _, fun _ _ _ _ h => h, by
    have e1 : cutI ((top.take 0).flatMap (symT T)) (fr : Int) (dst : Int) = [] := by rw [List.take_zero, List.flatMap_nil]; exact cutI_none (Or.inr (Or.inr (by simp)))
    rw [e1]
    exact World.ownsRow_nil _ _ _ _⟩⟩
  have hz0 : Hid ((((top.take 0).flatMap (symT T)).length : Nat) = 0) := by show _ = 0; rw [List.take_zero]; rfl
  clear hG
  go_enter Try.func53, Try.ntmps53
  go_wp2_with fail
  go_loopw [7, 8, 9] (fun ov av iv wr => ∃ (q : Nat) (xa : Option Addr) (xk xc : Nat), ov = .slice xa xk xc ∧ av = .int .i64 ((((top.take q).flatMap (symT T)).length : Nat) : Int) ∧ iv = .int .i64 (q : Int) ∧ q ≤ top.length ∧ BytesLoop w wr b kv nv rl top ps rv tv pv T fr dst q (.slice xa xk xc)) (fun _ _ iv _ => ((top.length : Int) - intOf iv).toNat)
  case atStart => exact ⟨0, none, 0, 0, rfl, by rw [hz0.out]; rfl, rfl, Nat.zero_le _, h0.out⟩
  case round =>
    obtain ⟨q, xa, xk, xc, rfl, rfl, rfl, hq, hI⟩ := hrel
    clear h0 hz0
    obtain ⟨hG, hO⟩ := hI
    have hXq : Hid (∀ q, ((top.take q).flatMap (symT T)) ++ ((top.drop q).flatMap (symT T)) = top.flatMap (symT T)) := fun q => by rw [← List.flatMap_append, List.take_append_drop]
    have hPX : ((top.take q).flatMap (symT T)).length ≤ (top.flatMap (symT T)).length := by rw [← hXq.out q, List.length_append]; omega
    have hend : Hid (dst ≤ ((top.take q).flatMap (symT T)).length ∨ q = top.length → cutI ((top.take q).flatMap (symT T)) (fr : Int) (dst : Int) = cutI (top.flatMap (symT T)) (fr : Int) (dst : Int)) := fun h => by
      rcases h with h | h
      · rw [← hXq.out q, cutI_app, cutI_none (x := (top.drop q).flatMap (symT T)) (Or.inr (Or.inl (by omega))), List.append_nil]
      · rw [h, List.take_length]
    have hbq : Hid (∀ c, c ∈ cutI ((top.take q).flatMap (symT T)) (fr : Int) (dst : Int) → c < 256) := fun c hc => hby c (by
      rw [← hXq.out q]; exact List.mem_append_left _ (List.mem_of_mem_take (List.mem_of_mem_drop hc)))
    have hconv : (convert 98 9 (.slice xa xk xc)).run Try.prog wr = .ok (.string (bytesB (cutI ((top.take q).flatMap (symT T)) (fr : Int) (dst : Int)))) wr := conv_out hO.row hbq.out
    obtain ⟨sa, sk, sc, hsv⟩ := own_shape hG.top
    have c3 : wr.cell? ⟨b, 3, none⟩ = some tv := hG.blk.cell 3
    have hGH : Hid (GRd _ _ _ _ _ _ _ _ _ _) := hG
    have hOH : Hid (RcOut _ _ _ _ _) := hO
    have hcl : sk = top.length := by
      rcases hG.top.2 with ⟨h1, h2⟩ | ⟨g, cap, _, h1, _⟩
      · rw [hsv] at h1; simp at h1; omega
      · rw [hsv] at h1; simp at h1; omega
    by_cases hlt : (q : Int) < (top.length : Int)
    · by_cases hpd : ((((top.take q).flatMap (symT T)).length : Nat) : Int) < (dst : Int)
      · obtain ⟨s, hs⟩ : ∃ s, top[q]? = some s := ⟨_, List.getElem?_eq_getElem (by omega)⟩
        obtain ⟨g, cap, hv⟩ := own_form hG.top (by omega)
        have hcell : ∀ w', Kept [] wr w' ∨ RcOut wr w' w.heap.size (.slice none 0 0) [] → True := fun _ _ => trivial
        have hcs : (symCells top)[q]? = some (.int .i64 (s : Int)) := by unfold symCells; rw [List.getElem?_map, hs]; rfl
        have c1 : wr.cell? ⟨g, q, none⟩ = some (.int .i64 (s : Int)) := by
          have := hG.top.cells (g := g) (by rw [hv]; rfl) q _ hcs
          rwa [ptr_add] at this
        have hm : s ∈ top := List.mem_of_getElem? hs
        have hsl := mem_flat (T := T) hm
        have hps : ps.length = T.length := by rw [hS.ps, List.length_map]
        have hol := cutI_len ((top.take q).flatMap (symT T)) (fr : Int) (dst : Int)
        have hcut : Hid (Calls Try.prog 80 #[.pointer (some ⟨b, 0, none⟩), .slice xa xk xc, .int .i64 (s : Int), .int .i64 ((fr : Int) - ((((top.take q).flatMap (symT T)).length : Nat) : Int)), .int .i64 ((dst : Int) - ((((top.take q).flatMap (symT T)).length : Nat) : Int))] wr _) :=
          rcut_any hS hT w.heap.size (s + 1) s (by omega) (hst s hm) (by omega) ((fr : Int) - ((((top.take q).flatMap (symT T)).length : Nat) : Int)) ((dst : Int) - ((((top.take q).flatMap (symT T)).length : Nat) : Int)) _ _ wr (by omega) (by omega) (by omega) (by omega) hG hO.row hO.below.size (by omega)
        have hsp : sizeP ps s = piOf (symT T s) := by rw [hS.ps]; exact size_tx (hst s hm)
        have hlong : (piOf (symT T s)).long = (symT T s).length := capL_of (by omega)
        have hsz : Hid (∀ w' v' o, RcOut wr w' w.heap.size v' o → Calls Try.prog 77 #[.pointer (some ⟨b, 0, none⟩), .int .i64 (s : Int)] w' fun e w2 => e = .returned (sizeP ps s).val ∧ Kept [] w' w2) := fun w' v' o h => psize_any (hGH.out.same h.stay).blk (hGH.out.same h.stay).pieces s (by have := hst s hm; omega) (by omega)
        rw [hsp] at hsz
        have hcell2 : Hid (∀ w' v' o, RcOut wr w' w.heap.size v' o → w'.cell? ⟨g, q, none⟩ = some (.int .i64 (s : Int)) ∧ w'.cell? ⟨b, 3, none⟩ = some tv) := fun w' v' o h => ⟨by
          have := (hGH.out.same h.stay).top.cells (g := g) (by rw [hv]; rfl) q _ hcs
          rwa [ptr_add] at this, (hGH.out.same h.stay).blk.cell 3⟩
        have hnext : Hid (∀ w2 w3 v', RcOut wr w2 w.heap.size v' (cutI ((top.take q).flatMap (symT T)) (fr : Int) (dst : Int) ++ cutI (symT T s) ((fr : Int) - ((((top.take q).flatMap (symT T)).length : Nat) : Int)) ((dst : Int) - ((((top.take q).flatMap (symT T)).length : Nat) : Int))) → Kept [] w2 w3 → BytesLoop w w3 b kv nv rl top ps rv tv pv T fr dst (q + 1) v') := fun w2 w3 v' o k => by
          have e : (top.take (q + 1)).flatMap (symT T) = (top.take q).flatMap (symT T) ++ symT T s := by
            rw [List.take_add_one, hs, List.flatMap_append]; simp
          refine ⟨(hGH.out.same o.stay).kept k, ⟨(hOH.out.below.trans o.below).trans (k.below (Nat.le_trans hOH.out.below.size o.below.size) (by simp)), fun k' cs e' he hk => (o.stay k' cs e' he (hOH.out.stay k' cs e' he hk)).kept k (by simp), ?_⟩⟩
          rw [e, cutI_app]
          exact row_stay (S := []) o.row k (fun _ _ => by simp)
        have hat : Hid ((((top.take (q + 1)).flatMap (symT T)).length : Nat) = ((top.take q).flatMap (symT T)).length + (symT T s).length) := by
          show _ = _
          rw [List.take_add_one, hs, List.flatMap_append]; simp
        rw [← hlong] at hat hsl
        subst hv
        clear hsv hcl hG hO hS hst hs hm hend hbq hconv hcell hcs hsp hlong hps hol hby hT
        generalize cutI ((top.take q).flatMap (symT T)) (fr : Int) (dst : Int) ++ cutI (symT T s) ((fr : Int) - ((((top.take q).flatMap (symT T)).length : Nat) : Int)) ((dst : Int) - ((((top.take q).flatMap (symT T)).length : Nat) : Int)) = O2 at *
        generalize piOf (symT T s) = pi at *
        obtain ⟨p1, p2, p3⟩ := pi
        simp only [] at hat hsl
        unfold PI.val PI.arr at hsz
        simp only [] at hsz
        generalize ((top.take q).flatMap (symT T)).length = P at *
        go_wp2_with (first
          | (go_at_call 80
             refine hcut.out.mono ?_
             rintro _ w2 ⟨v2, rfl, o2⟩
             obtain ⟨oa, ok, oc, rfl⟩ := own_shape o2.row
             obtain ⟨d1, d3⟩ := hcell2.out _ _ _ o2
             have o2H : Hid (RcOut _ _ _ _ _) := o2)
          | (go_at_call 77
             refine (hsz.out _ _ _ o2H.out).mono ?_
             rintro _ w3 ⟨rfl, k3⟩
             have hfin := hnext.out _ _ _ o2H.out (k3.alloc (.cells #[.int .i64 (p1 : Int), .int .i64 (p2 : Int), .int .i64 (p3 : Int), .slice none 0 0, .slice none 0 0, .int .i64 0] 91))
             have hfin : Hid (BytesLoop _ _ _ _ _ _ _ _ _ _ _ _ _ _ _ _) := hfin))
        refine ⟨⟨q + 1, oa, ok, oc, rfl, by rw [hat.out]; exact congrArg _ (by omega), by go_num, by omega, hfin.out⟩, ?_⟩
        simp only [intOf]; omega
      · have e := hend.out (Or.inl (by omega))
        rw [e] at hconv
        subst hsv hcl
        clear hG hO hS hst hend hby e hbq hT
        generalize ((((top.take q).flatMap (symT T)).length : Nat) : Int) = P at *
        obtain ⟨R, hR⟩ : ∃ R, Hid (bytesB (cutI (top.flatMap (symT T)) (fr : Int) (dst : Int)) = R) := ⟨_, rfl⟩
        rw [hR.out] at hconv
        generalize top.length = NN at *
        go_wp2
        go_ret
        exact ⟨by rw [hR.out]; rfl, hOH.out.below⟩
    · have e := hend.out (Or.inr (by omega))
      rw [e] at hconv
      subst hsv hcl
      clear hG hO hS hst hend hby e hbq hT
      generalize ((((top.take q).flatMap (symT T)).length : Nat) : Int) = P at *
      obtain ⟨R, hR⟩ : ∃ R, Hid (bytesB (cutI (top.flatMap (symT T)) (fr : Int) (dst : Int)) = R) := ⟨_, rfl⟩
      rw [hR.out] at hconv
      generalize top.length = NN at *
      go_wp2
      go_ret
      exact ⟨by rw [hR.out]; rfl, hOH.out.below⟩

end Go.Proofs.Ytgifhgnccmnbiaa
