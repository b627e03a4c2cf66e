/- Parts. -/
import Derived.Test.YtkodhpilkaihjaaGreatDoorV26
import Derived.Deep.RegionHeld3
namespace Go.Proofs.YtkodhpilkaihjaaGreatDoor
open Go.RowKit LS
structure DoP (w : World) (nb : Nat) (a : Ah) (c : CodeQ) (op arg : Nat) (a0 a1 a2 a3 : Option Addr) (n0 n1 n2 n3 e0 e1 e2 e3 : Nat) : Prop where
  st : StAt w nb a
  cv : CodeV w c (.slice a0 n0 e0) (.slice a1 n1 e1) (.slice a2 n2 e2) (.slice a3 n3 e3)
  rf : ∃ i, refersQ c i (op, arg) = true
  ln : a.stack.length ≤ 64
  sl : a.slots.length = 16
  kd : ∀ k ∈ a.stack, k ≠ 0
set_option maxRecDepth 100000 in
set_option maxHeartbeats 4000000 in
theorem do_0 (w : World) (nb : Nat) (a : Ah) (c : CodeQ) (arg : Nat) (a0 a1 a2 a3 : Option Addr) (n0 n1 n2 n3 e0 e1 e2 e3 : Nat) (h : DoP w nb a c 0 arg a0 a1 a2 a3 n0 n1 n2 n3 e0 e1 e2 e3) :
    Calls Tryz.prog 145 #[.pointer (some ⟨nb, 0, none⟩), .agg #[.slice a0 n0 e0, .slice a1 n1 e1, .slice a2 n2 e2, .slice a3 n3 e3], .agg #[.int .i64 (0 : Nat), .int .i64 arg]] w fun e w' => ∃ ok, e = .returned (.bool ok) ∧ Hid (DoneC w w' nb a (stepQ c (0, arg) a.stack a.slots) ok) := by
  have HP := hid h
  have hnb := h.st.lt
  clear h
  go_enter Tryz.func145, Tryz.ntmps145
  go_wp2_with fail
  refine calls_gen fun W hW => ?_
  have hbW : Below w.heap.size w W := by rw [hW]; exact ((Below.refl _ _).alloc (Nat.le_refl _) _).alloc (by simp) _
  have HSW := hid (HP.out.st.below hbW)
  have HGW : Hid (w.grownBy W (some nb)) := hid (grown_of_below hbW)
  clear hW hbW
  refine (sput_any nb a 1 W HSW.out HP.out.ln).mono ?_
  rintro e w1 ⟨rfl, HSx, hgx⟩
  have HG1 : Hid (w.grownBy w1 (some nb)) := hid (grown_trans HGW.out hgx)
  clear hgx
  go_wp2
  go_ret
  exact ⟨_, rfl, hid (DoneC.put (by decide) rfl ⟨rfl, rfl⟩ HSx.out HG1.out)⟩
set_option maxRecDepth 100000 in
set_option maxHeartbeats 4000000 in
theorem do_2 (w : World) (nb : Nat) (a : Ah) (c : CodeQ) (arg : Nat) (a0 a1 a2 a3 : Option Addr) (n0 n1 n2 n3 e0 e1 e2 e3 : Nat) (h : DoP w nb a c 2 arg a0 a1 a2 a3 n0 n1 n2 n3 e0 e1 e2 e3) :
    Calls Tryz.prog 145 #[.pointer (some ⟨nb, 0, none⟩), .agg #[.slice a0 n0 e0, .slice a1 n1 e1, .slice a2 n2 e2, .slice a3 n3 e3], .agg #[.int .i64 (2 : Nat), .int .i64 arg]] w fun e w' => ∃ ok, e = .returned (.bool ok) ∧ Hid (DoneC w w' nb a (stepQ c (2, arg) a.stack a.slots) ok) := by
  have HP := hid h
  have hnb := h.st.lt
  clear h
  go_enter Tryz.func145, Tryz.ntmps145
  go_wp2_with fail
  refine calls_gen fun W hW => ?_
  have hbW : Below w.heap.size w W := by rw [hW]; exact ((Below.refl _ _).alloc (Nat.le_refl _) _).alloc (by simp) _
  have HSW := hid (HP.out.st.below hbW)
  have HGW : Hid (w.grownBy W (some nb)) := hid (grown_of_below hbW)
  clear hW hbW
  refine (stake_any nb a W HSW.out HP.out.ln).mono ?_
  rintro e w1 ⟨rfl, HST, hgx⟩
  have HG1 : Hid (w.grownBy w1 (some nb)) := hid (grown_trans HGW.out hgx)
  clear hgx
  by_cases hk : a.stack.headD 0 = 3
  · have HR : Hid (stepQ c (2, arg) a.stack a.slots = pushQ 2 { a with stack := a.stack.tail }.stack { a with stack := a.stack.tail }.slots) := hid (by
      cases hs : a.stack with
      | nil => rw [hs] at hk; cases hk
      | cons k r => rw [hs] at hk; obtain rfl : k = 3 := hk; rfl)
    rw [hk]
    go_wp2_with fail
    refine (sput_any nb { a with stack := a.stack.tail } 2 w1 HST.out (by have := HP.out.ln; simp; omega)).mono ?_
    rintro e w2 ⟨rfl, HSx, hgx⟩
    have HG2 : Hid (w.grownBy w2 (some nb)) := hid (grown_trans HG1.out hgx)
    clear hgx
    go_wp2
    go_ret
    exact ⟨_, rfl, hid (DoneC.put (by decide) HR.out ⟨rfl, rfl⟩ HSx.out HG2.out)⟩
  · have HR : Hid (stepQ c (2, arg) a.stack a.slots = none) := hid (by
      cases hs : a.stack with
      | nil => rfl
      | cons k r => rw [hs] at hk; exact if_neg hk)
    have hkz : (((a.stack.headD 0 : Nat) : Int) == 3) = false := by rw [beq_eq_false_iff_ne]; omega
    generalize a.stack.headD 0 = k0 at *
    clear hk
    go_wp2
    go_ret
    exact ⟨_, rfl, hid (DoneC.no HR.out HG1.out)⟩
set_option maxRecDepth 100000 in
set_option maxHeartbeats 4000000 in
theorem do_5 (w : World) (nb : Nat) (a : Ah) (c : CodeQ) (arg : Nat) (a0 a1 a2 a3 : Option Addr) (n0 n1 n2 n3 e0 e1 e2 e3 : Nat) (h : DoP w nb a c 5 arg a0 a1 a2 a3 n0 n1 n2 n3 e0 e1 e2 e3) :
    Calls Tryz.prog 145 #[.pointer (some ⟨nb, 0, none⟩), .agg #[.slice a0 n0 e0, .slice a1 n1 e1, .slice a2 n2 e2, .slice a3 n3 e3], .agg #[.int .i64 (5 : Nat), .int .i64 arg]] w fun e w' => ∃ ok, e = .returned (.bool ok) ∧ Hid (DoneC w w' nb a (stepQ c (5, arg) a.stack a.slots) ok) := by
  have HP := hid h
  have hnb := h.st.lt
  clear h
  go_enter Tryz.func145, Tryz.ntmps145
  go_wp2_with fail
  refine calls_gen fun W hW => ?_
  have hbW : Below w.heap.size w W := by rw [hW]; exact ((Below.refl _ _).alloc (Nat.le_refl _) _).alloc (by simp) _
  have HSW := hid (HP.out.st.below hbW)
  have HGW : Hid (w.grownBy W (some nb)) := hid (grown_of_below hbW)
  clear hW hbW
  refine (stake_any nb a W HSW.out HP.out.ln).mono ?_
  rintro e w1 ⟨rfl, HST, hgx⟩
  have HG1 : Hid (w.grownBy w1 (some nb)) := hid (grown_trans HGW.out hgx)
  clear hgx
  by_cases hk : a.stack.headD 0 = 2
  · have HR : Hid (stepQ c (5, arg) a.stack a.slots = pushQ 2 { a with stack := a.stack.tail }.stack { a with stack := a.stack.tail }.slots) := hid (by
      cases hs : a.stack with
      | nil => rw [hs] at hk; cases hk
      | cons k r => rw [hs] at hk; obtain rfl : k = 2 := hk; rfl)
    rw [hk]
    go_wp2_with fail
    refine (sput_any nb { a with stack := a.stack.tail } 2 w1 HST.out (by have := HP.out.ln; simp; omega)).mono ?_
    rintro e w2 ⟨rfl, HSx, hgx⟩
    have HG2 : Hid (w.grownBy w2 (some nb)) := hid (grown_trans HG1.out hgx)
    clear hgx
    go_wp2
    go_ret
    exact ⟨_, rfl, hid (DoneC.put (by decide) HR.out ⟨rfl, rfl⟩ HSx.out HG2.out)⟩
  · have HR : Hid (stepQ c (5, arg) a.stack a.slots = none) := hid (by
      cases hs : a.stack with
      | nil => rfl
      | cons k r => rw [hs] at hk; exact if_neg hk)
    have hkz : (((a.stack.headD 0 : Nat) : Int) == 2) = false := by rw [beq_eq_false_iff_ne]; omega
    generalize a.stack.headD 0 = k0 at *
    clear hk
    go_wp2
    go_ret
    exact ⟨_, rfl, hid (DoneC.no HR.out HG1.out)⟩
set_option maxRecDepth 100000 in
set_option maxHeartbeats 4000000 in
theorem do_6 (w : World) (nb : Nat) (a : Ah) (c : CodeQ) (arg : Nat) (a0 a1 a2 a3 : Option Addr) (n0 n1 n2 n3 e0 e1 e2 e3 : Nat) (h : DoP w nb a c 6 arg a0 a1 a2 a3 n0 n1 n2 n3 e0 e1 e2 e3) :
    Calls Tryz.prog 145 #[.pointer (some ⟨nb, 0, none⟩), .agg #[.slice a0 n0 e0, .slice a1 n1 e1, .slice a2 n2 e2, .slice a3 n3 e3], .agg #[.int .i64 (6 : Nat), .int .i64 arg]] w fun e w' => ∃ ok, e = .returned (.bool ok) ∧ Hid (DoneC w w' nb a (stepQ c (6, arg) a.stack a.slots) ok) := by
  have HP := hid h
  have hnb := h.st.lt
  clear h
  go_enter Tryz.func145, Tryz.ntmps145
  go_wp2_with fail
  refine calls_gen fun W hW => ?_
  have hbW : Below w.heap.size w W := by rw [hW]; exact ((Below.refl _ _).alloc (Nat.le_refl _) _).alloc (by simp) _
  have HSW := hid (HP.out.st.below hbW)
  have HGW : Hid (w.grownBy W (some nb)) := hid (grown_of_below hbW)
  clear hW hbW
  refine (stake_any nb a W HSW.out HP.out.ln).mono ?_
  rintro e w1 ⟨rfl, HST, hgx⟩
  have HG1 : Hid (w.grownBy w1 (some nb)) := hid (grown_trans HGW.out hgx)
  clear hgx
  by_cases hk : a.stack.headD 0 = 2
  · have HR : Hid (stepQ c (6, arg) a.stack a.slots = pushQ 2 { a with stack := a.stack.tail }.stack { a with stack := a.stack.tail }.slots) := hid (by
      cases hs : a.stack with
      | nil => rw [hs] at hk; cases hk
      | cons k r => rw [hs] at hk; obtain rfl : k = 2 := hk; rfl)
    rw [hk]
    go_wp2_with fail
    refine (sput_any nb { a with stack := a.stack.tail } 2 w1 HST.out (by have := HP.out.ln; simp; omega)).mono ?_
    rintro e w2 ⟨rfl, HSx, hgx⟩
    have HG2 : Hid (w.grownBy w2 (some nb)) := hid (grown_trans HG1.out hgx)
    clear hgx
    go_wp2
    go_ret
    exact ⟨_, rfl, hid (DoneC.put (by decide) HR.out ⟨rfl, rfl⟩ HSx.out HG2.out)⟩
  · have HR : Hid (stepQ c (6, arg) a.stack a.slots = none) := hid (by
      cases hs : a.stack with
      | nil => rfl
      | cons k r => rw [hs] at hk; exact if_neg hk)
    have hkz : (((a.stack.headD 0 : Nat) : Int) == 2) = false := by rw [beq_eq_false_iff_ne]; omega
    generalize a.stack.headD 0 = k0 at *
    clear hk
    go_wp2
    go_ret
    exact ⟨_, rfl, hid (DoneC.no HR.out HG1.out)⟩
set_option maxRecDepth 100000 in
set_option maxHeartbeats 4000000 in
theorem do_7 (w : World) (nb : Nat) (a : Ah) (c : CodeQ) (arg : Nat) (a0 a1 a2 a3 : Option Addr) (n0 n1 n2 n3 e0 e1 e2 e3 : Nat) (h : DoP w nb a c 7 arg a0 a1 a2 a3 n0 n1 n2 n3 e0 e1 e2 e3) :
    Calls Tryz.prog 145 #[.pointer (some ⟨nb, 0, none⟩), .agg #[.slice a0 n0 e0, .slice a1 n1 e1, .slice a2 n2 e2, .slice a3 n3 e3], .agg #[.int .i64 (7 : Nat), .int .i64 arg]] w fun e w' => ∃ ok, e = .returned (.bool ok) ∧ Hid (DoneC w w' nb a (stepQ c (7, arg) a.stack a.slots) ok) := by
  have HP := hid h
  have hnb := h.st.lt
  clear h
  go_enter Tryz.func145, Tryz.ntmps145
  go_wp2_with fail
  refine calls_gen fun W hW => ?_
  have hbW : Below w.heap.size w W := by rw [hW]; exact ((Below.refl _ _).alloc (Nat.le_refl _) _).alloc (by simp) _
  have HSW := hid (HP.out.st.below hbW)
  have HGW : Hid (w.grownBy W (some nb)) := hid (grown_of_below hbW)
  clear hW hbW
  refine (stake_any nb a W HSW.out HP.out.ln).mono ?_
  rintro e w1 ⟨rfl, HST, hgx⟩
  have HG1 : Hid (w.grownBy w1 (some nb)) := hid (grown_trans HGW.out hgx)
  clear hgx
  by_cases hk : a.stack.headD 0 = 2
  · have HR : Hid (stepQ c (7, arg) a.stack a.slots = pushQ 2 { a with stack := a.stack.tail }.stack { a with stack := a.stack.tail }.slots) := hid (by
      cases hs : a.stack with
      | nil => rw [hs] at hk; cases hk
      | cons k r => rw [hs] at hk; obtain rfl : k = 2 := hk; rfl)
    rw [hk]
    go_wp2_with fail
    refine (sput_any nb { a with stack := a.stack.tail } 2 w1 HST.out (by have := HP.out.ln; simp; omega)).mono ?_
    rintro e w2 ⟨rfl, HSx, hgx⟩
    have HG2 : Hid (w.grownBy w2 (some nb)) := hid (grown_trans HG1.out hgx)
    clear hgx
    go_wp2
    go_ret
    exact ⟨_, rfl, hid (DoneC.put (by decide) HR.out ⟨rfl, rfl⟩ HSx.out HG2.out)⟩
  · have HR : Hid (stepQ c (7, arg) a.stack a.slots = none) := hid (by
      cases hs : a.stack with
      | nil => rfl
      | cons k r => rw [hs] at hk; exact if_neg hk)
    have hkz : (((a.stack.headD 0 : Nat) : Int) == 2) = false := by rw [beq_eq_false_iff_ne]; omega
    generalize a.stack.headD 0 = k0 at *
    clear hk
    go_wp2
    go_ret
    exact ⟨_, rfl, hid (DoneC.no HR.out HG1.out)⟩
set_option maxRecDepth 100000 in
set_option maxHeartbeats 4000000 in
theorem do_8 (w : World) (nb : Nat) (a : Ah) (c : CodeQ) (arg : Nat) (a0 a1 a2 a3 : Option Addr) (n0 n1 n2 n3 e0 e1 e2 e3 : Nat) (h : DoP w nb a c 8 arg a0 a1 a2 a3 n0 n1 n2 n3 e0 e1 e2 e3) :
    Calls Tryz.prog 145 #[.pointer (some ⟨nb, 0, none⟩), .agg #[.slice a0 n0 e0, .slice a1 n1 e1, .slice a2 n2 e2, .slice a3 n3 e3], .agg #[.int .i64 (8 : Nat), .int .i64 arg]] w fun e w' => ∃ ok, e = .returned (.bool ok) ∧ Hid (DoneC w w' nb a (stepQ c (8, arg) a.stack a.slots) ok) := by
  have HP := hid h
  have hnb := h.st.lt
  clear h
  go_enter Tryz.func145, Tryz.ntmps145
  go_wp2_with fail
  refine calls_gen fun W hW => ?_
  have hbW : Below w.heap.size w W := by rw [hW]; exact ((Below.refl _ _).alloc (Nat.le_refl _) _).alloc (by simp) _
  have HSW := hid (HP.out.st.below hbW)
  have HGW : Hid (w.grownBy W (some nb)) := hid (grown_of_below hbW)
  clear hW hbW
  refine (stake_any nb a W HSW.out HP.out.ln).mono ?_
  rintro e w1 ⟨rfl, HST, hgx⟩
  have HG1 : Hid (w.grownBy w1 (some nb)) := hid (grown_trans HGW.out hgx)
  clear hgx
  by_cases hk : a.stack.headD 0 = 2
  · have HR : Hid (stepQ c (8, arg) a.stack a.slots = pushQ 2 { a with stack := a.stack.tail }.stack { a with stack := a.stack.tail }.slots) := hid (by
      cases hs : a.stack with
      | nil => rw [hs] at hk; cases hk
      | cons k r => rw [hs] at hk; obtain rfl : k = 2 := hk; rfl)
    rw [hk]
    go_wp2_with fail
    refine (sput_any nb { a with stack := a.stack.tail } 2 w1 HST.out (by have := HP.out.ln; simp; omega)).mono ?_
    rintro e w2 ⟨rfl, HSx, hgx⟩
    have HG2 : Hid (w.grownBy w2 (some nb)) := hid (grown_trans HG1.out hgx)
    clear hgx
    go_wp2
    go_ret
    exact ⟨_, rfl, hid (DoneC.put (by decide) HR.out ⟨rfl, rfl⟩ HSx.out HG2.out)⟩
  · have HR : Hid (stepQ c (8, arg) a.stack a.slots = none) := hid (by
      cases hs : a.stack with
      | nil => rfl
      | cons k r => rw [hs] at hk; exact if_neg hk)
    have hkz : (((a.stack.headD 0 : Nat) : Int) == 2) = false := by rw [beq_eq_false_iff_ne]; omega
    generalize a.stack.headD 0 = k0 at *
    clear hk
    go_wp2
    go_ret
    exact ⟨_, rfl, hid (DoneC.no HR.out HG1.out)⟩
set_option maxRecDepth 100000 in
set_option maxHeartbeats 4000000 in
theorem do_10 (w : World) (nb : Nat) (a : Ah) (c : CodeQ) (arg : Nat) (a0 a1 a2 a3 : Option Addr) (n0 n1 n2 n3 e0 e1 e2 e3 : Nat) (h : DoP w nb a c 10 arg a0 a1 a2 a3 n0 n1 n2 n3 e0 e1 e2 e3) :
    Calls Tryz.prog 145 #[.pointer (some ⟨nb, 0, none⟩), .agg #[.slice a0 n0 e0, .slice a1 n1 e1, .slice a2 n2 e2, .slice a3 n3 e3], .agg #[.int .i64 (10 : Nat), .int .i64 arg]] w fun e w' => ∃ ok, e = .returned (.bool ok) ∧ Hid (DoneC w w' nb a (stepQ c (10, arg) a.stack a.slots) ok) := by
  have HP := hid h
  have hnb := h.st.lt
  clear h
  go_enter Tryz.func145, Tryz.ntmps145
  go_wp2_with fail
  refine calls_gen fun W hW => ?_
  have hbW : Below w.heap.size w W := by rw [hW]; exact ((Below.refl _ _).alloc (Nat.le_refl _) _).alloc (by simp) _
  have HSW := hid (HP.out.st.below hbW)
  have HGW : Hid (w.grownBy W (some nb)) := hid (grown_of_below hbW)
  clear hW hbW
  refine (stake_any nb a W HSW.out HP.out.ln).mono ?_
  rintro e w1 ⟨rfl, HST, hgx⟩
  have HG1 : Hid (w.grownBy w1 (some nb)) := hid (grown_trans HGW.out hgx)
  clear hgx
  by_cases hk : a.stack.headD 0 = 2
  · have HR : Hid (stepQ c (10, arg) a.stack a.slots = pushQ 2 { a with stack := a.stack.tail }.stack { a with stack := a.stack.tail }.slots) := hid (by
      cases hs : a.stack with
      | nil => rw [hs] at hk; cases hk
      | cons k r => rw [hs] at hk; obtain rfl : k = 2 := hk; rfl)
    rw [hk]
    go_wp2_with fail
    refine (sput_any nb { a with stack := a.stack.tail } 2 w1 HST.out (by have := HP.out.ln; simp; omega)).mono ?_
    rintro e w2 ⟨rfl, HSx, hgx⟩
    have HG2 : Hid (w.grownBy w2 (some nb)) := hid (grown_trans HG1.out hgx)
    clear hgx
    go_wp2
    go_ret
    exact ⟨_, rfl, hid (DoneC.put (by decide) HR.out ⟨rfl, rfl⟩ HSx.out HG2.out)⟩
  · have HR : Hid (stepQ c (10, arg) a.stack a.slots = none) := hid (by
      cases hs : a.stack with
      | nil => rfl
      | cons k r => rw [hs] at hk; exact if_neg hk)
    have hkz : (((a.stack.headD 0 : Nat) : Int) == 2) = false := by rw [beq_eq_false_iff_ne]; omega
    generalize a.stack.headD 0 = k0 at *
    clear hk
    go_wp2
    go_ret
    exact ⟨_, rfl, hid (DoneC.no HR.out HG1.out)⟩
set_option maxRecDepth 100000 in
set_option maxHeartbeats 4000000 in
theorem do_4 (w : World) (nb : Nat) (a : Ah) (c : CodeQ) (arg : Nat) (a0 a1 a2 a3 : Option Addr) (n0 n1 n2 n3 e0 e1 e2 e3 : Nat) (h : DoP w nb a c 4 arg a0 a1 a2 a3 n0 n1 n2 n3 e0 e1 e2 e3) :
    Calls Tryz.prog 145 #[.pointer (some ⟨nb, 0, none⟩), .agg #[.slice a0 n0 e0, .slice a1 n1 e1, .slice a2 n2 e2, .slice a3 n3 e3], .agg #[.int .i64 (4 : Nat), .int .i64 arg]] w fun e w' => ∃ ok, e = .returned (.bool ok) ∧ Hid (DoneC w w' nb a (stepQ c (4, arg) a.stack a.slots) ok) := by
  have HP := hid h
  have hnb := h.st.lt
  clear h
  go_enter Tryz.func145, Tryz.ntmps145
  go_wp2_with fail
  refine calls_gen fun W hW => ?_
  have hbW : Below w.heap.size w W := by rw [hW]; exact ((Below.refl _ _).alloc (Nat.le_refl _) _).alloc (by simp) _
  have HSW := hid (HP.out.st.below hbW)
  have HGW : Hid (w.grownBy W (some nb)) := hid (grown_of_below hbW)
  clear hW hbW
  refine (stake_any nb a W HSW.out HP.out.ln).mono ?_
  rintro e w1 ⟨rfl, HST, hgx⟩
  have HG1 : Hid (w.grownBy w1 (some nb)) := hid (grown_trans HGW.out hgx)
  clear hgx
  cases hp : plainK (a.stack.headD 0) with
  | true =>
    have HR : Hid (stepQ c (4, arg) a.stack a.slots = pushQ (a.stack.headD 0) { a with stack := a.stack.tail }.stack { a with stack := a.stack.tail }.slots) := hid (by
      cases hs : a.stack with
      | nil => rw [hs] at hp; cases hp
      | cons k r => rw [hs] at hp; exact if_pos hp)
    have hk0 : a.stack.headD 0 ≠ 0 := by intro e; rw [e] at hp; cases hp
    have HK0 := hid hk0
    have HPL : Hid (∀ W', Calls Tryz.prog 202 #[.int .u8 ((a.stack.headD 0 : Nat) : Int)] W' fun e w' => e = .returned (.bool true) ∧ w' = W') := hid (fun W' => by have := isPlain_any (a.stack.headD 0) W'; rwa [hp] at this)
    have HPU : Hid (∀ W', StAt W' nb { a with stack := a.stack.tail } → Calls Tryz.prog 199 #[.pointer (some ⟨nb, 0, none⟩), .int .u8 ((a.stack.headD 0 : Nat) : Int)] W' _) := hid (fun W' h => sput_any nb { a with stack := a.stack.tail } (a.stack.headD 0) W' h (by have := HP.out.ln; simp; omega))
    generalize a.stack.headD 0 = k0 at *
    clear hp hk0
    go_wp2_with (go_at_call 202; refine (HPL.out _).mono ?_; rintro e wq ⟨rfl, rfl⟩)
    refine (HPU.out _ HST.out).mono ?_
    rintro e w2 ⟨rfl, HSx, hgx⟩
    have HG2 : Hid (w.grownBy w2 (some nb)) := hid (grown_trans HG1.out hgx)
    clear hgx
    go_wp2
    go_ret
    exact ⟨_, rfl, hid (DoneC.put HK0.out HR.out ⟨rfl, rfl⟩ HSx.out HG2.out)⟩
  | false =>
    have HR : Hid (stepQ c (4, arg) a.stack a.slots = none) := hid (by
      cases hs : a.stack with
      | nil => rfl
      | cons k r => rw [hs] at hp; exact if_neg (by show ¬ plainK k = true; rw [show plainK k = false from hp]; simp))
    have HPL : Hid (∀ W', Calls Tryz.prog 202 #[.int .u8 ((a.stack.headD 0 : Nat) : Int)] W' fun e w' => e = .returned (.bool false) ∧ w' = W') := hid (fun W' => by have := isPlain_any (a.stack.headD 0) W'; rwa [hp] at this)
    generalize a.stack.headD 0 = k0 at *
    clear hp
    go_wp2_with (go_at_call 202; refine (HPL.out _).mono ?_; rintro e wq ⟨rfl, rfl⟩)
    go_ret
    exact ⟨_, rfl, hid (DoneC.no HR.out HG1.out)⟩
set_option maxRecDepth 100000 in
set_option maxHeartbeats 4000000 in
theorem do_9 (w : World) (nb : Nat) (a : Ah) (c : CodeQ) (arg : Nat) (a0 a1 a2 a3 : Option Addr) (n0 n1 n2 n3 e0 e1 e2 e3 : Nat) (h : DoP w nb a c 9 arg a0 a1 a2 a3 n0 n1 n2 n3 e0 e1 e2 e3) :
    Calls Tryz.prog 145 #[.pointer (some ⟨nb, 0, none⟩), .agg #[.slice a0 n0 e0, .slice a1 n1 e1, .slice a2 n2 e2, .slice a3 n3 e3], .agg #[.int .i64 (9 : Nat), .int .i64 arg]] w fun e w' => ∃ ok, e = .returned (.bool ok) ∧ Hid (DoneC w w' nb a (stepQ c (9, arg) a.stack a.slots) ok) := by
  have HP := hid h
  have hnb := h.st.lt
  clear h
  go_enter Tryz.func145, Tryz.ntmps145
  have HS : Hid (∀ o1 o2, StAt ((w.alloc o1).alloc o2) nb a) := hid (fun o1 o2 => HP.out.st.below (((Below.refl _ _).alloc (Nat.le_refl _) _).alloc (by simp) _))
  go_wp2
  go_ret
  exact ⟨_, rfl, hid ⟨rfl, fun st sl e => by injection e with e; injection e with e1 e2; subst e1; subst e2; exact HS.out _ _, grown_alloc (grown_alloc (grown_refl _ _) _) _⟩⟩
set_option maxRecDepth 100000 in
set_option maxHeartbeats 4000000 in
theorem do_11 (w : World) (nb : Nat) (a : Ah) (c : CodeQ) (arg : Nat) (a0 a1 a2 a3 : Option Addr) (n0 n1 n2 n3 e0 e1 e2 e3 : Nat) (h : DoP w nb a c 11 arg a0 a1 a2 a3 n0 n1 n2 n3 e0 e1 e2 e3) :
    Calls Tryz.prog 145 #[.pointer (some ⟨nb, 0, none⟩), .agg #[.slice a0 n0 e0, .slice a1 n1 e1, .slice a2 n2 e2, .slice a3 n3 e3], .agg #[.int .i64 (11 : Nat), .int .i64 arg]] w fun e w' => ∃ ok, e = .returned (.bool ok) ∧ Hid (DoneC w w' nb a (stepQ c (11, arg) a.stack a.slots) ok) := by
  have HP := hid h
  have hnb := h.st.lt
  clear h
  go_enter Tryz.func145, Tryz.ntmps145
  go_wp2_with fail
  refine calls_gen fun W hW => ?_
  have hbW : Below w.heap.size w W := by rw [hW]; exact ((Below.refl _ _).alloc (Nat.le_refl _) _).alloc (by simp) _
  have HSW := hid (HP.out.st.below hbW)
  have HGW : Hid (w.grownBy W (some nb)) := hid (grown_of_below hbW)
  clear hW hbW
  refine (stake_any nb a W HSW.out HP.out.ln).mono ?_
  rintro e w1 ⟨rfl, HST, hgx⟩
  have HG1 : Hid (w.grownBy w1 (some nb)) := hid (grown_trans HGW.out hgx)
  clear hgx
  have HR : Hid (DoneC w w1 nb a (stepQ c (11, arg) a.stack a.slots) (decide (a.stack.headD 0 ≠ 0))) := hid (by
    cases hs : a.stack with
    | nil => exact DoneC.no rfl HG1.out
    | cons k r =>
      have hk : k ≠ 0 := HP.out.kd k (by rw [hs]; simp)
      refine ⟨by show decide (k ≠ 0) = true; simp [hk], fun st sl e => ?_, HG1.out⟩
      injection e with e; injection e with e1 e2; subst e1; subst e2
      have := HST.out
      rw [hs] at this
      exact this)
  generalize a.stack.headD 0 = k0 at *
  go_wp2
  go_ret
  exact ⟨_, rfl, hid (by rw [show (((k0 : Nat) : Int) != 0) = decide (k0 ≠ 0) from by rw [Bool.eq_iff_iff, bne_iff_ne, decide_eq_true_iff]; omega]; exact HR.out)⟩
set_option maxRecDepth 100000 in
set_option maxHeartbeats 4000000 in
theorem do_1 (w : World) (nb : Nat) (a : Ah) (c : CodeQ) (arg : Nat) (a0 a1 a2 a3 : Option Addr) (n0 n1 n2 n3 e0 e1 e2 e3 : Nat) (h : DoP w nb a c 1 arg a0 a1 a2 a3 n0 n1 n2 n3 e0 e1 e2 e3) :
    Calls Tryz.prog 145 #[.pointer (some ⟨nb, 0, none⟩), .agg #[.slice a0 n0 e0, .slice a1 n1 e1, .slice a2 n2 e2, .slice a3 n3 e3], .agg #[.int .i64 (1 : Nat), .int .i64 arg]] w fun e w' => ∃ ok, e = .returned (.bool ok) ∧ Hid (DoneC w w' nb a (stepQ c (1, arg) a.stack a.slots) ok) := by
  have HP := hid h
  have hnb := h.st.lt
  clear h
  obtain ⟨i, hrf⟩ := HP.out.rf
  obtain ⟨xs, hx1, hx2, hx3⟩ := HP.out.cv.ps
  have harg : arg < c.picks.length := by simpa [refersQ] using hrf
  have hxl : xs.length = c.picks.length := by rw [← hx2, List.length_map]
  have hn1 : n1 = xs.length := by
    obtain ⟨av, cp, e⟩ := own_shape hx1
    injection e
  subst hn1
  obtain ⟨g, cp, hg⟩ := own_some hx1 (by omega)
  injection hg with hg1 hg2 hg3
  subst hg1
  have hlt : arg < xs.length := by omega
  obtain ⟨g0, g1, g2⟩ := encPk_get xs arg hlt
  have x0 := own_cell hx1 _ _ g0
  have x1 := own_cell hx1 _ _ g1
  have x2 := own_cell hx1 _ _ g2
  have hgl := own_lt hx1
  have HR : Hid (stepQ c (1, arg) a.stack a.slots = pushQ (kindOfP (xs[arg].nd, xs[arg].n)) a.stack a.slots) := hid (by
    show pushQ ((c.picks[arg]?.map kindOfP).getD 0) _ _ = _
    rw [← hx2, List.getElem?_map, List.getElem?_eq_getElem hlt]
    rfl)
  generalize xs[arg] = x at *
  have hk0 : Hid (kindOfP (x.nd, x.n) ≠ 0) := hid (by unfold kindOfP; split <;> decide)
  have hlz : (arg : Int) < xs.length := by omega
  clear hrf hx1 hx2 hx3 g0 g1 g2 hxl harg hg2 hg3
  go_enter Tryz.func145, Tryz.ntmps145
  go_wp2_with fail
  refine calls_gen fun W hW => ?_
  have hbW : Below w.heap.size w W := by rw [hW]; exact ((Below.refl _ _).alloc (Nat.le_refl _) _).alloc (by simp) _
  have HSW := hid (HP.out.st.below hbW)
  have HGW : Hid (w.grownBy W (some nb)) := hid (grown_of_below hbW)
  clear hW hbW x0 x1 x2
  refine (kindOf_any x.nm x.la x.ln x.lc x.n x.nd W).mono ?_
  rintro e w1 ⟨rfl, hb1⟩
  have HS1 := hid (HSW.out.below hb1)
  have HG1 : Hid (w.grownBy w1 (some nb)) := hid (grown_below HGW.out hb1)
  clear hb1
  generalize kindOfP (x.nd, x.n) = kk at *
  go_wp2_with fail
  refine (sput_any nb a kk w1 HS1.out HP.out.ln).mono ?_
  rintro e w2 ⟨rfl, HSx, hgx⟩
  have HG2 : Hid (w.grownBy w2 (some nb)) := hid (grown_trans HG1.out hgx)
  clear hgx
  go_wp2
  go_ret
  exact ⟨_, rfl, hid (DoneC.put hk0.out HR.out ⟨rfl, rfl⟩ HSx.out HG2.out)⟩
set_option maxRecDepth 100000 in
set_option maxHeartbeats 4000000 in
theorem do_3 (w : World) (nb : Nat) (a : Ah) (c : CodeQ) (arg : Nat) (a0 a1 a2 a3 : Option Addr) (n0 n1 n2 n3 e0 e1 e2 e3 : Nat) (h : DoP w nb a c 3 arg a0 a1 a2 a3 n0 n1 n2 n3 e0 e1 e2 e3) :
    Calls Tryz.prog 145 #[.pointer (some ⟨nb, 0, none⟩), .agg #[.slice a0 n0 e0, .slice a1 n1 e1, .slice a2 n2 e2, .slice a3 n3 e3], .agg #[.int .i64 (3 : Nat), .int .i64 arg]] w fun e w' => ∃ ok, e = .returned (.bool ok) ∧ Hid (DoneC w w' nb a (stepQ c (3, arg) a.stack a.slots) ok) := by
  have HP := hid h
  have hnb := h.st.lt
  clear h
  go_enter Tryz.func145, Tryz.ntmps145
  go_wp2_with fail
  refine calls_gen fun W hW => ?_
  have hbW : Below w.heap.size w W := by rw [hW]; exact ((Below.refl _ _).alloc (Nat.le_refl _) _).alloc (by simp) _
  have HSW := hid (HP.out.st.below hbW)
  have HGW : Hid (w.grownBy W (some nb)) := hid (grown_of_below hbW)
  clear hW hbW
  obtain ⟨y, hy⟩ : ∃ y, y = a.stack.headD 0 := ⟨_, rfl⟩
  obtain ⟨x, hx⟩ : ∃ x, x = a.stack.tail.headD 0 := ⟨_, rfl⟩
  have HT1 := stake_any nb a W HSW.out HP.out.ln
  rw [← hy] at HT1
  refine HT1.mono ?_
  clear HT1
  rintro e w1 ⟨rfl, HST, hgx⟩
  have HG1 : Hid (w.grownBy w1 (some nb)) := hid (grown_trans HGW.out hgx)
  have HY := hid hy
  have HXX := hid hx
  clear hgx hy hx
  go_wp2_with fail
  have hx := HXX.out
  have hy := HY.out
  have HT1 := stake_any nb { a with stack := a.stack.tail } w1 HST.out (by have := HP.out.ln; simp; omega)
  rw [show ({ a with stack := a.stack.tail } : Ah).stack.headD 0 = x from hx.symm] at HT1
  refine HT1.mono ?_
  clear HT1
  rintro e w2 ⟨rfl, HST2, hgx⟩
  have HG2 : Hid (w.grownBy w2 (some nb)) := hid (grown_trans HG1.out hgx)
  clear hgx
  have HT2 : Hid (StAt w2 nb { a with stack := a.stack.tail.tail }) := hid HST2.out
  have HNO : Hid ((plainK x && plainK y) = false → stepQ c (3, arg) a.stack a.slots = none) := hid (fun hp => by
    cases hs : a.stack with
    | nil => rfl
    | cons k r =>
      cases hr : r with
      | nil => rfl
      | cons k2 r2 =>
        rw [hs, hr] at hx hy
        have hx : x = k2 := hx
        have hy : y = k := hy
        rw [hx, hy] at hp
        show (if (plainK k2 && plainK k) = true then _ else none) = none
        rw [hp]; rfl)
  have HYES : Hid (plainK x = true → plainK y = true → stepQ c (3, arg) a.stack a.slots = pushQ (max x y) { a with stack := a.stack.tail.tail }.stack { a with stack := a.stack.tail.tail }.slots) := hid (fun hp1 hp2 => by
    cases hs : a.stack with
    | nil => rw [hs] at hy; rw [hy] at hp2; cases hp2
    | cons k r =>
      cases hr : r with
      | nil => rw [hs, hr] at hx; rw [hx] at hp1; cases hp1
      | cons k2 r2 =>
        rw [hs, hr] at hx hy
        have hx : x = k2 := hx
        have hy : y = k := hy
        rw [hx] at hp1 ⊢
        rw [hy] at hp2 ⊢
        show (if (plainK k2 && plainK k) = true then _ else none) = _
        rw [hp1, hp2]; rfl)
  clear hx hy HST HST2 HXX HY
  cases hpx : plainK x with
  | false =>
    have HR : Hid (stepQ c (3, arg) a.stack a.slots = none) := hid (HNO.out (by rw [hpx]; rfl))
    have HPX : Hid (∀ W', Calls Tryz.prog 202 #[.int .u8 (x : Int)] W' fun e w' => e = .returned (.bool false) ∧ w' = W') := hid (fun W' => by have := isPlain_any x W'; rwa [hpx] at this)
    clear hpx
    go_wp2_with (go_at_call 202; refine (HPX.out _).mono ?_; rintro e wq ⟨rfl, rfl⟩)
    go_ret
    exact ⟨_, rfl, hid (DoneC.no HR.out HG2.out)⟩
  | true =>
    cases hpy : plainK y with
    | false =>
      have HR : Hid (stepQ c (3, arg) a.stack a.slots = none) := hid (HNO.out (by rw [hpx, hpy]; rfl))
      have HPX : Hid (∀ W', Calls Tryz.prog 202 #[.int .u8 (x : Int)] W' fun e w' => e = .returned (.bool true) ∧ w' = W') := hid (fun W' => by have := isPlain_any x W'; rwa [hpx] at this)
      have HPY : Hid (∀ W', Calls Tryz.prog 202 #[.int .u8 (y : Int)] W' fun e w' => e = .returned (.bool false) ∧ w' = W') := hid (fun W' => by have := isPlain_any y W'; rwa [hpy] at this)
      clear hpx hpy
      go_wp2_with fail
      refine (HPX.out _).mono ?_
      rintro e wq ⟨rfl, rfl⟩
      go_wp2_with fail
      refine (HPY.out _).mono ?_
      rintro e wq ⟨rfl, rfl⟩
      go_wp2
      go_ret
      exact ⟨_, rfl, hid (DoneC.no HR.out HG2.out)⟩
    | true =>
      have HR := hid (HYES.out hpx hpy)
      have HPX : Hid (∀ W', Calls Tryz.prog 202 #[.int .u8 (x : Int)] W' fun e w' => e = .returned (.bool true) ∧ w' = W') := hid (fun W' => by have := isPlain_any x W'; rwa [hpx] at this)
      have HPY : Hid (∀ W', Calls Tryz.prog 202 #[.int .u8 (y : Int)] W' fun e w' => e = .returned (.bool true) ∧ w' = W') := hid (fun W' => by have := isPlain_any y W'; rwa [hpy] at this)
      have hx12 : x = 1 ∨ x = 2 := by unfold plainK at hpx; simpa using hpx
      have hy12 : y = 1 ∨ y = 2 := by unfold plainK at hpy; simpa using hpy
      have hm0 : Hid (max x y ≠ 0) := hid (by omega)
      clear hpx hpy HNO HYES
      go_wp2_with fail
      refine (HPX.out _).mono ?_
      rintro e wq ⟨rfl, rfl⟩
      go_wp2_with fail
      refine (HPY.out _).mono ?_
      rintro e wq ⟨rfl, rfl⟩
      rcases hx12 with rfl | rfl <;> rcases hy12 with rfl | rfl
      all_goals
        go_wp2_with fail
        refine (sput_any nb { a with stack := a.stack.tail.tail } _ _ HT2.out (by have := HP.out.ln; simp; omega)).mono ?_
        rintro e w3 ⟨rfl, HSx, hgx⟩
        have HG3 : Hid (w.grownBy w3 (some nb)) := hid (grown_trans HG2.out hgx)
        clear hgx
        go_wp2
        go_ret
        exact ⟨_, rfl, hid (DoneC.put hm0.out HR.out ⟨rfl, rfl⟩ HSx.out HG3.out)⟩
set_option maxRecDepth 100000 in
set_option maxHeartbeats 8000000 in
theorem do_13 (w : World) (nb : Nat) (a : Ah) (c : CodeQ) (arg : Nat) (a0 a1 a2 a3 : Option Addr) (n0 n1 n2 n3 e0 e1 e2 e3 : Nat) (h : DoP w nb a c 13 arg a0 a1 a2 a3 n0 n1 n2 n3 e0 e1 e2 e3) :
    Calls Tryz.prog 145 #[.pointer (some ⟨nb, 0, none⟩), .agg #[.slice a0 n0 e0, .slice a1 n1 e1, .slice a2 n2 e2, .slice a3 n3 e3], .agg #[.int .i64 (13 : Nat), .int .i64 arg]] w fun e w' => ∃ ok, e = .returned (.bool ok) ∧ Hid (DoneC w w' nb a (stepQ c (13, arg) a.stack a.slots) ok) := by
  have HP := hid h
  have hnb := h.st.lt
  obtain ⟨i, hrf⟩ := h.rf
  have harg : arg < 16 := by simpa [refersQ] using hrf
  have haz : (arg : Int) < 16 := by omega
  clear h hrf
  go_enter Tryz.func145, Tryz.ntmps145
  go_upto_region 26 with fail
  refine wp_gen fun W hW => ?_
  have hbW : Below w.heap.size w W := by rw [hW]; exact ((Below.refl _ _).alloc (Nat.le_refl _) _).alloc (by simp) _
  have HSW := hid (HP.out.st.below hbW)
  have HGW : Hid (w.grownBy W (some nb)) := hid (grown_of_below hbW)
  have HOW : Hid (BAt W (w.heap.size + 1) [.int .i64 (13 : Nat), .int .i64 arg] 184) := hid (by
    rw [hW]; have := Go.Deep.blk_alloc_new (w.alloc (.cells #[.slice a0 n0 e0, .slice a1 n1 e1, .slice a2 n2 e2, .slice a3 n3 e3] 58)) (.cells #[.int .i64 (13 : Nat), .int .i64 arg] 184); rwa [Go.Deep.nblk_alloc] at this)
  clear hW hbW
  have o1 := HOW.out.cell 1
  simp only [List.getElem?_cons_zero, List.getElem?_cons_succ] at o1
  have s1 := StAt.slot HSW.out arg harg
  obtain ⟨k, hk⟩ : ∃ k, k = a.slots.getD arg 0 := ⟨_, rfl⟩
  rw [← hk] at s1
  have HK := hid hk
  have HPU : Hid (∀ W', StAt W' nb a → Calls Tryz.prog 199 #[.pointer (some ⟨nb, 0, none⟩), .int .u8 (k : Int)] W' _) := hid (fun W' h => sput_any nb a k W' h HP.out.ln)
  have HSD : Hid (StAt W.drew nb a) := hid (HSW.out.below ((Below.refl _ _).drew))
  clear hk
  go_region_with (first
    | (go_at_call 199
       refine (HPU.out _ HSD.out).mono ?_
       rintro e w5 ⟨rfl, HSx, hgx⟩
       have HG5 : Hid (w.grownBy w5 (some nb)) := hid (grown_trans (grown_drew HGW.out) hgx)
       clear hgx))
  all_goals
    go_wp2
    go_ret
    refine ⟨_, rfl, hid ?_⟩
    by_cases h0 : k = 0
    · subst h0
      rw [put_zero]
      refine DoneC.no ?_ HG5.out
      show (if a.slots.getD arg 0 = 0 then none else _) = none
      rw [← HK.out]; rfl
    · refine DoneC.put h0 ?_ ⟨rfl, rfl⟩ HSx.out HG5.out
      show (if a.slots.getD arg 0 = 0 then none else pushQ (a.slots.getD arg 0) a.stack a.slots) = _
      rw [← HK.out, if_neg h0]
set_option maxRecDepth 100000 in
set_option maxHeartbeats 8000000 in
theorem do_12 (w : World) (nb : Nat) (a : Ah) (c : CodeQ) (arg : Nat) (a0 a1 a2 a3 : Option Addr) (n0 n1 n2 n3 e0 e1 e2 e3 : Nat) (h : DoP w nb a c 12 arg a0 a1 a2 a3 n0 n1 n2 n3 e0 e1 e2 e3) :
    Calls Tryz.prog 145 #[.pointer (some ⟨nb, 0, none⟩), .agg #[.slice a0 n0 e0, .slice a1 n1 e1, .slice a2 n2 e2, .slice a3 n3 e3], .agg #[.int .i64 (12 : Nat), .int .i64 arg]] w fun e w' => ∃ ok, e = .returned (.bool ok) ∧ Hid (DoneC w w' nb a (stepQ c (12, arg) a.stack a.slots) ok) := by
  have HP := hid h
  have hnb := h.st.lt
  obtain ⟨i, hrf⟩ := h.rf
  have harg : arg < 16 := by simpa [refersQ] using hrf
  have haz : (arg : Int) < 16 := by omega
  clear h hrf
  go_enter Tryz.func145, Tryz.ntmps145
  go_upto_region 23 with fail
  refine wp_gen fun W hW => ?_
  have hbW : Below w.heap.size w W := by rw [hW]; exact ((Below.refl _ _).alloc (Nat.le_refl _) _).alloc (by simp) _
  have HSW := hid (HP.out.st.below hbW)
  have HGW : Hid (w.grownBy W (some nb)) := hid (grown_of_below hbW)
  have HOW : Hid (BAt W (w.heap.size + 1) [.int .i64 (12 : Nat), .int .i64 arg] 184) := hid (by
    rw [hW]; have := Go.Deep.blk_alloc_new (w.alloc (.cells #[.slice a0 n0 e0, .slice a1 n1 e1, .slice a2 n2 e2, .slice a3 n3 e3] 58)) (.cells #[.int .i64 (12 : Nat), .int .i64 arg] 184); rwa [Go.Deep.nblk_alloc] at this)
  clear hW hbW
  have o1 := HOW.out.cell 1
  simp only [List.getElem?_cons_zero, List.getElem?_cons_succ] at o1
  obtain ⟨y, hy⟩ : ∃ y, y = a.stack.headD 0 := ⟨_, rfl⟩
  have HY := hid hy
  have HTK : Hid (∀ W', StAt W' nb a → Calls Tryz.prog 201 #[.pointer (some ⟨nb, 0, none⟩)] W' fun e w' => e = .returned (.int .u8 (y : Int)) ∧ Hid (StAt w' nb { a with stack := a.stack.tail }) ∧ W'.grownBy w' (some nb)) := hid (fun W' h => by rw [hy]; exact stake_any nb a W' h HP.out.ln)
  have HSD : Hid (StAt W.drew nb a) := hid (HSW.out.below ((Below.refl _ _).drew))
  clear hy
  have hno : ¬ nb = w.heap.size + 1 := by omega
  have hno' : ¬ w.heap.size + 1 = nb := by omega
  go_region_with (first
    | (go_at_call 201
       refine (HTK.out _ HSD.out).mono ?_
       rintro e w5 ⟨rfl, HS5, hgx⟩
       have HG5 : Hid (w.grownBy w5 (some nb)) := hid (grown_trans (grown_drew HGW.out) hgx)
       have HO5 := hid ((HOW.out.below ((Below.refl _ _).drew)).grown hgx (by intro e; injection e with e; omega))
       have p1 := HO5.out.cell 1
       simp only [List.getElem?_cons_zero, List.getElem?_cons_succ] at p1
       have s5 := StAt.slot HS5.out arg harg
       have fz5 := HS5.out.frozen (67 + arg)
       clear hgx))
  all_goals
    have HRX : Hid (∀ W' : World, (∀ j, W'.heap[j]? = (w5.setCell ⟨nb, 67 + arg, none⟩ (.int .u8 (y : Int))).heap[j]?) → w.grownBy W' (some nb) → DoneC w W' nb a (stepQ c (12, arg) a.stack a.slots) (((y : Nat) : Int) != 0)) := hid (fun W' h1 h2 => by
      have hst : StAt W' nb { a with stack := a.stack.tail, slots := a.slots.set arg y } := (h1 nb).trans (by
        have h3 := HS5.out.setk (67 + arg) (.int .u8 (y : Int))
        rw [stC_store { a with stack := a.stack.tail } arg y harg HP.out.sl] at h3
        exact h3)
      rw [show (((y : Nat) : Int) != 0) = decide (y ≠ 0) from by rw [Bool.eq_iff_iff, bne_iff_ne, decide_eq_true_iff]; omega]
      have hy := HY.out
      cases hs : a.stack with
      | nil => rw [hs] at hy; subst hy; exact DoneC.no rfl h2
      | cons k r =>
        rw [hs] at hy hst
        have hy : y = k := hy
        subst hy
        have hk : y ≠ 0 := HP.out.kd y (by rw [hs]; simp)
        refine ⟨by show decide (y ≠ 0) = true; simp [hk], fun st sl e => ?_, h2⟩
        injection e with e; injection e with e1 e2; subst e1; subst e2
        exact hst)
    clear HTK HSD HOW HO5 HS5
    go_wp2
    go_region
    all_goals
      go_wp2
      go_ret
      exact ⟨_, rfl, hid (HRX.out _ (fun _ => rfl) (grown_drew (grown_set (p := ⟨nb, 67 + arg, none⟩) HG5.out (Or.inl rfl) _)))⟩
theorem sdo_any (w : World) (nb : Nat) (a : Ah) (c : CodeQ) (op arg : Nat) (a0 a1 a2 a3 : Option Addr) (n0 n1 n2 n3 e0 e1 e2 e3 : Nat) (h : DoP w nb a c op arg a0 a1 a2 a3 n0 n1 n2 n3 e0 e1 e2 e3) (hop : op ≤ 13) :
    Calls Tryz.prog 145 #[.pointer (some ⟨nb, 0, none⟩), .agg #[.slice a0 n0 e0, .slice a1 n1 e1, .slice a2 n2 e2, .slice a3 n3 e3], .agg #[.int .i64 op, .int .i64 arg]] w fun e w' => ∃ ok, e = .returned (.bool ok) ∧ Hid (DoneC w w' nb a (stepQ c (op, arg) a.stack a.slots) ok) := by
  rcases (by omega : op = 0 ∨ op = 1 ∨ op = 2 ∨ op = 3 ∨ op = 4 ∨ op = 5 ∨ op = 6 ∨ op = 7 ∨ op = 8 ∨ op = 9 ∨ op = 10 ∨ op = 11 ∨ op = 12 ∨ op = 13) with rfl | rfl | rfl | rfl | rfl | rfl | rfl | rfl | rfl | rfl | rfl | rfl | rfl | rfl
  · exact do_0 w nb a c arg a0 a1 a2 a3 n0 n1 n2 n3 e0 e1 e2 e3 h
  · exact do_1 w nb a c arg a0 a1 a2 a3 n0 n1 n2 n3 e0 e1 e2 e3 h
  · exact do_2 w nb a c arg a0 a1 a2 a3 n0 n1 n2 n3 e0 e1 e2 e3 h
  · exact do_3 w nb a c arg a0 a1 a2 a3 n0 n1 n2 n3 e0 e1 e2 e3 h
  · exact do_4 w nb a c arg a0 a1 a2 a3 n0 n1 n2 n3 e0 e1 e2 e3 h
  · exact do_5 w nb a c arg a0 a1 a2 a3 n0 n1 n2 n3 e0 e1 e2 e3 h
  · exact do_6 w nb a c arg a0 a1 a2 a3 n0 n1 n2 n3 e0 e1 e2 e3 h
  · exact do_7 w nb a c arg a0 a1 a2 a3 n0 n1 n2 n3 e0 e1 e2 e3 h
  · exact do_8 w nb a c arg a0 a1 a2 a3 n0 n1 n2 n3 e0 e1 e2 e3 h
  · exact do_9 w nb a c arg a0 a1 a2 a3 n0 n1 n2 n3 e0 e1 e2 e3 h
  · exact do_10 w nb a c arg a0 a1 a2 a3 n0 n1 n2 n3 e0 e1 e2 e3 h
  · exact do_11 w nb a c arg a0 a1 a2 a3 n0 n1 n2 n3 e0 e1 e2 e3 h
  · exact do_12 w nb a c arg a0 a1 a2 a3 n0 n1 n2 n3 e0 e1 e2 e3 h
  · exact do_13 w nb a c arg a0 a1 a2 a3 n0 n1 n2 n3 e0 e1 e2 e3 h
end Go.Proofs.YtkodhpilkaihjaaGreatDoor
