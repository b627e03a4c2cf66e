/- The sentinels of package fault, in memory. -/
import Derived.Test.YtmncdbepjhmkgaaDoorOwnC
namespace Go.Proofs.YtmncdbepjhmkgaaDoor
open Go.RowKit LS

/-- The numbers of the sentinels' variables. -/
def sents : List Nat := [0, 2, 3, 4, 5, 6, 1, 7, 8, 9, 10, 11, 12]
/-- What the program reads of its package-level variables. -/
structure Vars (w : World) (A : Nat → Addr) (m : Int) : Prop where
  max : w.cell? ⟨14, 0, none⟩ = some (.int .i64 m)
  sent : ∀ g ∈ sents, w.cell? ⟨g, 0, none⟩ = some (.iface 155 (.pointer (some (A g))))
  apart : ∀ g ∈ sents, ∀ h ∈ sents, g ≠ h → A g ≠ A h
  row : ∀ g ∈ sents, ∃ c t, w.heap[(A g).block]? = some (.cells c t (0, 0))
  handle : w.cell? ⟨13, 0, none⟩ = some (.iface 107 (.agg #[.pointer (some ⟨17, 33, none⟩)]))
theorem Vars.below {w w' : World} {A : Nat → Addr} {m : Int} (h : Vars w A m) (hb : Below w.heap.size w w') : Vars w' A m where
  max := (hb.cell (p := ⟨_, 0, none⟩) (World.block_lt_of_cell? _ _ h.max)).trans h.max
  sent g hg := (hb.cell (p := ⟨_, 0, none⟩) (World.block_lt_of_cell? _ _ (h.sent g hg))).trans (h.sent g hg)
  apart := h.apart
  row g hg := by
    obtain ⟨c, t, e⟩ := h.row g hg
    refine ⟨c, t, (hb.block _ ?_).trans e⟩
    rcases Nat.lt_or_ge (A g).block w.heap.size with h | h
    · exact h
    · rw [Array.getElem?_eq_none h] at e; cases e
  handle := (hb.cell (p := ⟨_, 0, none⟩) (World.block_lt_of_cell? _ _ h.handle)).trans h.handle
theorem Vars.alloc {w : World} {A : Nat → Addr} {m : Int} (h : Vars w A m) (o : Obj) : Vars (w.alloc o) A m := h.below ((Below.refl _ _).alloc (Nat.le_refl _) _)
theorem Vars.drewN {w : World} {A : Nat → Addr} {m : Int} (h : Vars w A m) (k : Nat) : Vars (w.drewN k) A m := h.below (below_drewN _ _ _)

end Go.Proofs.YtmncdbepjhmkgaaDoor
