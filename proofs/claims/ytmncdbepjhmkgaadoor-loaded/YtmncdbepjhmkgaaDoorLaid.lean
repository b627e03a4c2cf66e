/- What the listed package-level variables hold when the call begins, in the words of the walks; and the frame of the statement. -/
import Derived.Test.YtmncdbepjhmkgaaDoorRows
import Derived.Test.YtmncdbepjhmkgaaDoorVars
import Derived.Test.YtmncdbepjhmkgaaDoorRefBase
import Derived.ProofKit
import Derived.LaidLaws
import Derived.LaidHandle
import Derived.Stop.LaidTwo
import Derived.Shelf.Vars
import Derived.Lay
namespace Go.Proofs.YtmncdbepjhmkgaaDoor
open Go.ChangeShapes Go.WideShapes Go.ChangeAt Go.RowKit LS

theorem skip_second {P : Program} {x y : String × DataW Unit} {r : List (String × DataW Unit)} {w : World} (h : laidMet P (x :: y :: r) w) : laidMet P (x :: r) w := by
  obtain ⟨n, d⟩ := x
  obtain ⟨n', d'⟩ := y
  obtain ⟨ps, ⟨g, t, cs, f, p, q, h1, h2, h3, h4, ⟨g', t', cs', f', p', q', k1, k2, k3, k4, k5, e'⟩, e⟩, hnd, hr⟩ := h
  subst e'
  have hsub : (MemPlace.row ⟨g, 0, none⟩ cs.size ++ p ++ q').Sublist ps := by
    rw [e]; exact List.Sublist.append (List.Sublist.refl _) (List.sublist_append_right _ _)
  exact ⟨_, ⟨g, t, cs, f, p, q', h1, h2, h3, h4, k5, rfl⟩, hnd.sublist hsub, fun b off hm => hr b off (hsub.mem hm)⟩

theorem own : ownKnob Tryd.prog.godebug = none := by kernel_rfl
theorem gHandle : Tryd.prog.globalNamed "errors.errorType" = some 13 := by kernel_rfl
theorem rtypeRow : (Tryd.prog.cutTypes.find? (·.1 == "internal/reflectlite.rtype")).map (·.2) = some 107 := by kernel_rfl
theorem oneRow : ((List.range 186).filter fun t => Tryd.prog.rowNamed t [101, 114, 114, 111, 114]) = [33] := by kernel_rfl
theorem nTypes : Tryd.prog.types.size = 186 := by kernel_rfl
theorem rowE (u : TypeId) (h : Tryd.prog.typeName? 3 u = some "*errors.errorString") : u = 155 :=
  typeName_ptr_named (nm := "errors.errorString") (by kernel_rfl) (by kernel_rfl) (by decide) u h
theorem cellsE : Tryd.prog.cellsOf 174 = 1 := by kernel_rfl
theorem cellsS : Tryd.prog.cellsOf 9 = 1 := by kernel_rfl

theorem handle_of {W : World} {l : List (String × DataW Unit)} (h : handlesMet Tryd.prog (("errors.errorType", Rows.laid_errors_errorType) :: l) W) : W.cell? ⟨13, 0, none⟩ = some (.iface 107 (.agg #[.pointer (some ⟨17, 33, none⟩)])) := by
  obtain ⟨name, u, ty, e1, e2, e3, e4, e5⟩ := h _ (List.mem_cons_self ..)
  have en : name = [101, 114, 114, 111, 114] := (Option.some.inj e1).symm
  subst en
  obtain rfl := Option.some.inj (rtypeRow.symm.trans e2)
  have hm : ty ∈ (List.range 186).filter fun t => Tryd.prog.rowNamed t [101, 114, 114, 111, 114] := List.mem_filter.2 ⟨List.mem_range.2 (by rw [← nTypes]; exact e3), e4⟩
  rw [oneRow] at hm
  obtain rfl := List.mem_singleton.1 hm
  have hh : typeHandle Tryd.prog 33 = .pointer (some ⟨17, 33, none⟩) := by kernel_rfl
  rw [hh] at e5
  simpa using World.var?_cell gHandle e5 0

/-- what is known of two sentinels. -/
def Two (W : World) (x y : Nat) : Prop := ∃ (a b : Addr) (c d : Array Value) (t u : TypeId), W.cell? ⟨x, 0, none⟩ = some (.iface 155 (.pointer (some a))) ∧ W.cell? ⟨y, 0, none⟩ = some (.iface 155 (.pointer (some b))) ∧ a ≠ b ∧ W.heap[a.block]? = some (.cells c t (0, 0)) ∧ W.heap[b.block]? = some (.cells d u (0, 0))
def txtD (d : DataW Unit) : List UInt8 := match d with
  | .iface _ (.ptr (.agg [.lit (.string t)])) => t
  | _ => []
def entD (x : String × List UInt8 × Nat) : String × DataW Unit := (x.1, .iface "*errors.errorString" (.ptr (.agg [.lit (.string x.2.1)])))
def EntOk (x : String × List UInt8 × Nat) : Prop := Tryd.prog.globalNamed x.1 = some x.2.2 ∧ (Tryd.prog.globals[x.2.2]?).map (·.type) = some 33
def ents : List (String × List UInt8 × Nat) := [("gauge/fault.Long", txtD Rows.laid_gauge_fault_Long, 0), ("gauge/fault.Syntax", txtD Rows.laid_gauge_fault_Syntax, 2), ("gauge/fault.Deep", txtD Rows.laid_gauge_fault_Deep, 3), ("gauge/fault.Type", txtD Rows.laid_gauge_fault_Type, 4), ("gauge/fault.Store", txtD Rows.laid_gauge_fault_Store, 5), ("gauge/fault.Twice", txtD Rows.laid_gauge_fault_Twice, 6), ("gauge/fault.Many", txtD Rows.laid_gauge_fault_Many, 1), ("gauge/fault.Times", txtD Rows.laid_gauge_fault_Times, 7), ("gauge/fault.Code", txtD Rows.laid_gauge_fault_Code, 8), ("gauge/fault.Sum", txtD Rows.laid_gauge_fault_Sum, 9), ("gauge/fault.Refer", txtD Rows.laid_gauge_fault_Refer, 10), ("gauge/fault.Stack", txtD Rows.laid_gauge_fault_Stack, 11), ("gauge/fault.Fuel", txtD Rows.laid_gauge_fault_Fuel, 12)]
theorem ents_ok : ∀ x ∈ ents, EntOk x := by
  have h : (ents.all fun x => decide (Tryd.prog.globalNamed x.1 = some x.2.2) && decide ((Tryd.prog.globals[x.2.2]?).map (·.type) = some 33)) = true := by kernel_rfl
  intro x hx
  have := List.all_eq_true.1 h x hx
  rw [Bool.and_eq_true, decide_eq_true_iff, decide_eq_true_iff] at this
  exact this
theorem two_all {W : World} {r : List (String × DataW Unit)} {x : String × List UInt8 × Nat} (hx : EntOk x) : ∀ l : List (String × List UInt8 × Nat), (∀ y ∈ l, EntOk y) → laidMet Tryd.prog (entD x :: (l.map entD ++ r)) W → ∀ y ∈ l, Two W x.2.2 y.2.2
  | [], _, _, y, hy => by cases hy
  | z :: l, ho, h, y, hy => by
    rcases List.mem_cons.1 hy with rfl | hy
    · have hy := ho y (List.mem_cons_self ..)
      obtain ⟨a, b, _, _, c, d, t, u, hva, hvb, _, _, _, _, _, _, hne, ra, rb⟩ := laid_sentinels2 h hx.1 hx.2 hy.1 hy.2 Tryd.underlying33 rowE Tryd.underlying155 Tryd.underlying174 rfl rfl Tryd.underlying9 cellsE cellsS
      exact ⟨a, b, c, d, t, u, by simpa using World.var?_cell hx.1 hva 0, by simpa using World.var?_cell hy.1 hvb 0, hne, ra, rb⟩
    · exact two_all hx l (fun y h => ho y (List.mem_cons_of_mem _ h)) (skip_second h) y hy
theorem pair_all {W : World} {r : List (String × DataW Unit)} : ∀ l : List (String × List UInt8 × Nat), (∀ y ∈ l, EntOk y) → laidMet Tryd.prog (l.map entD ++ r) W → l.Pairwise fun x y => Two W x.2.2 y.2.2
  | [], _, _ => .nil
  | _ :: l, ho, h => .cons (two_all (ho _ (List.mem_cons_self ..)) l (fun y h => ho y (List.mem_cons_of_mem _ h)) h) (pair_all l (fun y h => ho y (List.mem_cons_of_mem _ h)) h.tail)
theorem pw_all {R : Nat → Nat → Prop} (hs : ∀ x y, R x y → R y x) : ∀ {l : List Nat}, l.Pairwise R → ∀ x ∈ l, ∀ y ∈ l, x ≠ y → R x y
  | [], _, x, hx, _, _, _ => by cases hx
  | z :: l, hp, x, hx, y, hy, hn => by
    obtain ⟨h, t⟩ := List.pairwise_cons.1 hp
    rcases List.mem_cons.1 hx with rfl | i <;> rcases List.mem_cons.1 hy with rfl | j
    · exact absurd rfl hn
    · exact h _ j
    · exact hs _ _ (h _ i)
    · exact pw_all hs t x i y j hn
def adr (W : World) (g : Nat) : Addr := match W.cell? ⟨g, 0, none⟩ with
  | some (.iface _ (.pointer (some a))) => a
  | _ => ⟨0, 0, none⟩
set_option maxHeartbeats 2000000 in
theorem vars_of {W : World} {r : List (String × DataW Unit)} (h : laidMet Tryd.prog (("gauge/fault.Long", Rows.laid_gauge_fault_Long) :: ("gauge/fault.Syntax", Rows.laid_gauge_fault_Syntax) :: ("gauge/fault.Deep", Rows.laid_gauge_fault_Deep) :: ("gauge/fault.Type", Rows.laid_gauge_fault_Type) :: ("gauge/fault.Store", Rows.laid_gauge_fault_Store) :: ("gauge/fault.Twice", Rows.laid_gauge_fault_Twice) :: ("gauge/fault.Many", Rows.laid_gauge_fault_Many) :: ("gauge/fault.Times", Rows.laid_gauge_fault_Times) :: ("gauge/fault.Code", Rows.laid_gauge_fault_Code) :: ("gauge/fault.Sum", Rows.laid_gauge_fault_Sum) :: ("gauge/fault.Refer", Rows.laid_gauge_fault_Refer) :: ("gauge/fault.Stack", Rows.laid_gauge_fault_Stack) :: ("gauge/fault.Fuel", Rows.laid_gauge_fault_Fuel) :: r) W)
    (hh : W.cell? ⟨13, 0, none⟩ = some (.iface 107 (.agg #[.pointer (some ⟨17, 33, none⟩)])))
    {m : Int} (hm : W.cell? ⟨14, 0, none⟩ = some (.int .i64 m)) : ∃ A, Vars W A m := by
  have P := pw_all (R := Two W) (fun x y ⟨a, b, c, d, t, u, h1, h2, h3, h4, h5⟩ => ⟨b, a, d, c, u, t, h2, h1, fun e => h3 e.symm, h5, h4⟩) (l := sents) (List.pairwise_map.2 (pair_all ents ents_ok h))
  have Q : ∀ g ∈ sents, ∃ h, Two W g h := fun g hg => ⟨if g = 0 then 2 else 0, P g hg _ (by split <;> decide) (by split <;> omega)⟩
  refine ⟨adr W, hm, fun g hg => ?_, fun g hg k hk hn => ?_, fun g hg => ?_, hh⟩
  · obtain ⟨k, a, b, c, d, t, u, h1, h2, h3, h4, h5⟩ := Q g hg
    simp only [adr, h1]
  · obtain ⟨a, b, c, d, t, u, h1, h2, h3, h4, h5⟩ := P g hg k hk hn
    simp only [adr, h1, h2]
    exact h3
  · obtain ⟨k, a, b, c, d, t, u, h1, h2, h3, h4, h5⟩ := Q g hg
    simp only [adr, h1]
    exact ⟨_, _, h4⟩
end Go.Proofs.YtmncdbepjhmkgaaDoor
