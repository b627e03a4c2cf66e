/- Parts. -/
import Derived.Test.YtpbemaaghbbocaaGreatDoorA16
import Derived.Laws.IdiomStrings
import Derived.Test.YtpbemaaghbbocaaGreatDoorA25
import Derived.Test.YtpbemaaghbbocaaGreatDoorA38
namespace Go.Proofs.YtpbemaaghbbocaaGreatDoor
open Go.RowKit LS
theorem conv_digit (W : World) (d : Nat) (hd : d ≤ 9) : (convert 63 9 (.slice (some ⟨W.heap.size, 0, none⟩) 1 1)).run Tryz.prog (W.alloc (.cells #[.int .u8 ((48 : Int) + d)] 5)) = .ok (.string ⟨#[dig d]⟩) (W.alloc (.cells #[.int .u8 ((48 : Int) + d)] 5)) := by
  refine run_convert_bytes_back _ _ _ 5 ⟨W.heap.size, 0, none⟩ 1 [dig d] Tryz.underlying63 Tryz.underlying5 Tryz.underlying9 ?_
  intro j hj
  obtain rfl : j = 0 := by simp at hj; omega
  rw [add_zero_block]
  have h := Go.Deep.blk_alloc_new W (.cells #[.int .u8 ((48 : Int) + d)] 5)
  simp only [World.cell?, h]
  have e : ((dig d).toNat : Int) = 48 + d := by
    have : (dig d).toNat = 48 + d := by unfold dig; simp; omega
    omega
  simp [e]
end Go.Proofs.YtpbemaaghbbocaaGreatDoor
namespace Go.Proofs.YtpbemaaghbbocaaGreatDoor
open Go.RowKit LS
theorem below_own {w0 w w' : World} {v : Value} (h : Below w0.heap.size w0 w) (hg : w.grownBy w' v.ownBlock) (hv : ∀ q, v.ownBlock = some q → w0.heap.size ≤ q) : Below w0.heap.size w0 w' := by
  refine ⟨hg.os.trans h.os, hg.tape.trans h.tape, hg.output.trans h.output, Nat.le_trans h.size hg.size, ?_⟩
  intro j hj
  rw [hg.block j (Nat.lt_of_lt_of_le hj h.size) (fun e => by have := hv j e.symm; omega), h.block j hj]
end Go.Proofs.YtpbemaaghbbocaaGreatDoor
namespace Go.Proofs.YtpbemaaghbbocaaGreatDoor
open Go.RowKit LS
theorem Tryz.infoInt : (Tryz.prog.info? 3).map (fun i => (i.zero, i.size, i.bytes)) = some (some (.int .i64 0), 1, 8) := by kernel_rfl
end Go.Proofs.YtpbemaaghbbocaaGreatDoor
