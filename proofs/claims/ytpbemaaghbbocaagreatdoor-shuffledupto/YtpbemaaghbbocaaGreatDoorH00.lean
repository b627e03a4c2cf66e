/- Parts. -/
import Derived.Test.YtpbemaaghbbocaaGreatDoorA37
import Derived.Test.YtpbemaaghbbocaaGreatDoorA38
import Derived.Test.YtpbemaaghbbocaaGreatDoorA46
import Derived.Lib.SmallJoins
import Derived.OpenShut
namespace Go.Proofs.YtpbemaaghbbocaaGreatDoor
open Go.RowKit LS
set_option maxHeartbeats 1000000 in
theorem load_of (s : ByteArray) (A : Nat → Addr) (m : Int) (r : Nat × Nat) (w : World) (hv : Vars w A m)
    (hread : Hid (Calls Tryz.prog 24 #[.string s] w fun e w' => ∃ sv err, e = .returned (.tuple #[sv, err]) ∧ Hid (LErrIs w' A err r) ∧ Below w.heap.size w w')) :
    Calls Tryz.prog 13 #[.string s] w fun e w' => e = .returned (.tuple #[.int .i64 r.1, .int .i64 r.2]) ∧ Below w.heap.size w w' := by
  go_enter Tryz.func13, Tryz.ntmps13
  go_wp2_with fail
  refine hread.out.mono ?_
  rintro e w1 ⟨sv, err, rfl, herr, hb1⟩
  have hv1 := hv.below hb1
  rcases herr.out with ⟨rfl, rfl⟩ | ⟨rfl, rfl⟩ | ⟨rfl, rfl⟩ | ⟨i, fa, rfl, rfl, h1, h2⟩ | ⟨i, fa, rfl, rfl, h1, h2⟩
  · go_wp2_with (first | (go_at_call 20; refine (number_nil A m _ hv1).mono ?_; rintro e w' ⟨rfl, rfl⟩) | (go_at_call 21; refine (place_nil _).mono ?_; rintro e w' ⟨rfl, hb2⟩))
    go_ret2
    exact ⟨rfl, hb1.trans (hb2.mono hb1.size)⟩
  · go_wp2_with (first | (go_at_call 20; refine (number_long A m _ hv1).mono ?_; rintro e w' ⟨rfl, rfl⟩) | (go_at_call 21; refine (place_bare A m _ _ hv1).mono ?_; rintro e w' ⟨rfl, hb2⟩))
    go_ret2
    exact ⟨rfl, hb1.trans (hb2.mono hb1.size)⟩
  · go_wp2_with (first | (go_at_call 20; refine (number_many A m _ hv1).mono ?_; rintro e w' ⟨rfl, rfl⟩) | (go_at_call 21; refine (place_bare A m _ _ hv1).mono ?_; rintro e w' ⟨rfl, hb2⟩))
    go_ret2
    exact ⟨rfl, hb1.trans (hb2.mono hb1.size)⟩
  · go_wp2_with (first | (go_at_call 20; refine (number_store A m _ hv1 fa h2).mono ?_; rintro e w' ⟨rfl, rfl⟩) | (go_at_call 21; refine (place_fault A m fa i _ hv1 h1).mono ?_; rintro e w' ⟨rfl, hb2⟩))
    go_ret2
    exact ⟨rfl, hb1.trans (hb2.mono hb1.size)⟩
  · go_wp2_with (first | (go_at_call 20; refine (number_twice A m _ hv1 fa h2).mono ?_; rintro e w' ⟨rfl, rfl⟩) | (go_at_call 21; refine (place_fault A m fa i _ hv1 h1).mono ?_; rintro e w' ⟨rfl, hb2⟩))
    go_ret2
    exact ⟨rfl, hb1.trans (hb2.mono hb1.size)⟩
end Go.Proofs.YtpbemaaghbbocaaGreatDoor
namespace Go.Proofs.YtpbemaaghbbocaaGreatDoor
open Go.RowKit LS
theorem joinN_snoc : ∀ (l : List (List UInt8)) (x : List UInt8), joinN (l ++ [x]) = (if l.isEmpty then [] else joinN l ++ [10]) ++ x
  | [], x => rfl
  | [a], x => by simp [joinN]
  | a :: b :: l, x => by
    have := joinN_snoc (b :: l) x
    rw [List.cons_append, List.cons_append, joinN, ← List.cons_append, this, joinN]
    simp
end Go.Proofs.YtpbemaaghbbocaaGreatDoor
namespace Go.Proofs.YtpbemaaghbbocaaGreatDoor
open Go.ChangeShapes Go.WideShapes Go.ChangeAt Go.RowKit LS
theorem trodAll_five {H : Type} {enc : TypeId × Value → H} {w : World} {base : Nat} {spare : Nat → Bool} {held : Bool} {t0 t1 t2 t3 t4 : TypeId} {args : Array Value} {ds : List (DataW H)} {ps : List MemPlace} (h : DataW.TrodAll enc Tryz.prog w base spare held [t0, t1, t2, t3, t4] args.toList ds ps) :
    ∃ v0 v1 v2 v3 v4 d0 d1 d2 d3 d4 p0 p1 p2 p3 p4, args = #[v0, v1, v2, v3, v4] ∧ ds = [d0, d1, d2, d3, d4] ∧ ps = p0 ++ (p1 ++ (p2 ++ (p3 ++ (p4 ++ [])))) ∧ DataW.Trod enc Tryz.prog w base spare held t0 v0 d0 p0 ∧ DataW.Trod enc Tryz.prog w base spare held t1 v1 d1 p1 ∧ DataW.Trod enc Tryz.prog w base spare held t2 v2 d2 p2 ∧ DataW.Trod enc Tryz.prog w base spare held t3 v3 d3 p3 ∧ DataW.Trod enc Tryz.prog w base spare held t4 v4 d4 p4 := by
  obtain ⟨v0, l0, d0, e0, p0, q0, ha, rfl, rfl, h0, h⟩ := trodAll_cons h
  obtain ⟨v1, l1, d1, e1, p1, q1, rfl, rfl, rfl, h1, h⟩ := trodAll_cons h
  obtain ⟨v2, l2, d2, e2, p2, q2, rfl, rfl, rfl, h2, h⟩ := trodAll_cons h
  obtain ⟨v3, l3, d3, e3, p3, q3, rfl, rfl, rfl, h3, h⟩ := trodAll_cons h
  obtain ⟨v4, l4, d4, e4, p4, q4, rfl, rfl, rfl, h4, h⟩ := trodAll_cons h
  obtain ⟨rfl, rfl, rfl⟩ := trodAll_nil h
  exact ⟨v0, v1, v2, v3, v4, d0, d1, d2, d3, d4, p0, p1, p2, p3, p4, by rw [← Array.toArray_toList (xs := args), ha], rfl, rfl, h0, h1, h2, h3, h4⟩
end Go.Proofs.YtpbemaaghbbocaaGreatDoor
