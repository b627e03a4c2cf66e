/- Parts. -/
import Derived.Test.YtkodhpilkaihjaaGreatDoorV08
import Derived.Test.YtkodhpilkaihjaaGreatDoorV13
import Derived.BigQuiet
import Derived.Test.YtkodhpilkaihjaaGreatDoorV12
namespace Go.Proofs.YtkodhpilkaihjaaGreatDoor
open Go.RowKit LS
def flatPV : List PV → List Value
  | [] => []
  | p :: l => p.cells ++ flatPV l
structure PkOk (w : World) (x : Nd × Nat) (p : PV) : Prop where
  k : p.k = if 0 < x.2 then 2 else 1
  n : 0 < x.2 → p.n = x.2
  nm : bl p.nm = x.1.name
  cs : CondsAre w 0 p x.1.conds
structure RCode (w : World) (cb : Nat) (c : CodeQ) (cv pv gv iv : Value) (l : List PV) (g : List (Option Addr × Nat × Nat)) : Prop where
  box : BAt w cb [cv, pv, gv, iv] 101
  cs : w.ownsRow 0 2 1 cv c.consts.length (c.consts.map (.int .i64))
  ps : w.ownsRow 0 92 8 pv c.picks.length (flatPV l)
  pl : l.length = c.picks.length
  pk : ∀ (i : Nat) (x : Nd × Nat) (p : PV), c.picks[i]? = some x → l[i]? = some p → PkOk w x p
  gs : w.ownsRow 0 90 1 gv c.groups.length (g.map fun y => .slice y.1 y.2.1 y.2.2)
  gl : g.length = c.groups.length
  gk : ∀ (i : Nat) (x : List (List UInt8)) (y : Option Addr × Nat × Nat), c.groups[i]? = some x → g[i]? = some y → ∃ bs : List ByteArray, w.ownsRow 0 9 1 (.slice y.1 y.2.1 y.2.2) bs.length (bs.map .string) ∧ bs.map bl = x
  is : w.ownsRow 0 136 2 iv c.ins.length (flatI c.ins)
theorem CondsAre.below' {w w' : World} {p : PV} {cs : List (List UInt8 × List UInt8 × Bool)} (h : CondsAre w 0 p cs) (hb : Below w.heap.size w w') : CondsAre w' 0 p cs := by
  obtain ⟨qs, h1, h2⟩ := h; exact ⟨qs, own_below h1 hb, h2⟩
theorem PkOk.below {w w' : World} {x : Nd × Nat} {p : PV} (h : PkOk w x p) (hb : Below w.heap.size w w') : PkOk w' x p := ⟨h.k, h.n, h.nm, h.cs.below' hb⟩
theorem RCode.below {w w' : World} {cb : Nat} {c : CodeQ} {cv pv gv iv : Value} {l : List PV} {g : List (Option Addr × Nat × Nat)} (h : RCode w cb c cv pv gv iv l g) (hb : Below w.heap.size w w') : RCode w' cb c cv pv gv iv l g :=
  ⟨h.box.below hb, own_below h.cs hb, own_below h.ps hb, h.pl, fun i x p h1 h2 => (h.pk i x p h1 h2).below hb, own_below h.gs hb, h.gl, fun i x y h1 h2 => by
    obtain ⟨bs, h3, h4⟩ := h.gk i x y h1 h2
    exact ⟨bs, own_below h3 hb, h4⟩, own_below h.is hb⟩
theorem ret_boolV {a b : Bool} (h : a = b) : Ending.returned (.bool a) = .returned (.bool b) := by rw [h]
def refersN (nc np ng ni i op arg : Nat) : Bool := match op with
  | 0 => decide (arg < nc)
  | 1 => decide (arg < np)
  | 2 => decide (arg < 5)
  | 3 => decide (arg < 4)
  | 4 => decide (arg = 0)
  | 9 => decide (i < arg ∧ arg ≤ ni)
  | 10 => decide (i < arg ∧ arg ≤ ni)
  | 11 => decide (arg = 0)
  | 12 => decide (arg < 16)
  | 13 => decide (arg < 16)
  | _ => decide (arg < ng)
theorem refersQ_N (c : CodeQ) (i op arg : Nat) : refersQ c i (op, arg) = refersN c.consts.length c.picks.length c.groups.length c.ins.length i op arg := rfl
structure InsAt (w : World) (cb i op arg nc np ngr ni : Nat) (ca pa ga : Option Addr) (cc pc gc ic g : Nat) : Prop where
  box : BAt w cb [.slice ca nc cc, .slice pa np pc, .slice ga ngr gc, .slice (some ⟨g, 0, none⟩) ni ic] 101
  lt : i < ni
  c0 : w.cell? ⟨g, i * 2, none⟩ = some (.int .i64 op)
  c1 : w.cell? ⟨g, i * 2 + 1, none⟩ = some (.int .i64 arg)
set_option maxRecDepth 100000 in
set_option maxHeartbeats 8000000 in
theorem refers_w (w : World) (cb i op arg nc np ngr ni : Nat) (ca pa ga : Option Addr) (cc pc gc ic g : Nat) (h : InsAt w cb i op arg nc np ngr ni ca pa ga cc pc gc ic g) (hop : op ≤ 13) (harg : arg < 65536) (c : CodeQ) (e1 : c.consts.length = nc) (e2 : c.picks.length = np) (e3 : c.groups.length = ngr) (e4 : c.ins.length = ni) :
    Calls Tryz.prog 53 #[.pointer (some ⟨cb, 0, none⟩), .int .i64 i] w fun e w' => e = .returned (.bool (refersQ c i (op, arg))) ∧ Below w.heap.size w w' := by
  rw [refersQ_N, e1, e2, e3, e4]
  have HB := hid h.box
  have hlt := h.lt
  have c0 := h.c0
  have c1 := h.c1
  have b0 := h.box.cell 0
  have b1 := h.box.cell 1
  have b2 := h.box.cell 2
  have b3 := h.box.cell 3
  simp only [List.getElem?_cons_zero, List.getElem?_cons_succ] at b0 b1 b2 b3
  have hbl := h.box.lt
  have hgl := World.block_lt_of_cell? _ _ c0
  simp only at hgl
  clear e1 e2 e3 e4 h
  rcases (by omega : op = 0 ∨ op = 1 ∨ op = 2 ∨ op = 3 ∨ op = 4 ∨ op = 5 ∨ op = 6 ∨ op = 7 ∨ op = 8 ∨ op = 9 ∨ op = 10 ∨ op = 11 ∨ op = 12 ∨ op = 13) with rfl | rfl | rfl | rfl | rfl | rfl | rfl | rfl | rfl | rfl | rfl | rfl | rfl | rfl
  · go_enter Tryz.func53, Tryz.ntmps53
    go_wp2
    go_quiet (fail)
    go_wp2
    all_goals
      go_ret
      refine ⟨ret_boolV ?_, (by repeat (first | exact Below.refl _ _ | assumption | refine Below.alloc ?_ (by first | omega | (simp; omega) | simp) _ | refine Below.setCell ?_ (by first | omega | (simp; omega) | simp) _ | refine below_drewN' ?_ _ | refine Below.drew ?_))⟩
      first
        | (simp only [refersN]; done)
        | (simp only [refersN]; rw [Bool.eq_iff_iff]; simp; done)
        | (simp only [refersN]; rw [Bool.eq_iff_iff]; simp; omega)
  · go_enter Tryz.func53, Tryz.ntmps53
    go_wp2
    go_quiet (fail)
    go_wp2
    all_goals
      go_ret
      refine ⟨ret_boolV ?_, (by repeat (first | exact Below.refl _ _ | assumption | refine Below.alloc ?_ (by first | omega | (simp; omega) | simp) _ | refine Below.setCell ?_ (by first | omega | (simp; omega) | simp) _ | refine below_drewN' ?_ _ | refine Below.drew ?_))⟩
      first
        | (simp only [refersN]; done)
        | (simp only [refersN]; rw [Bool.eq_iff_iff]; simp; done)
        | (simp only [refersN]; rw [Bool.eq_iff_iff]; simp; omega)
  · go_enter Tryz.func53, Tryz.ntmps53
    go_wp2
    all_goals
      go_ret
      refine ⟨ret_boolV ?_, (by repeat (first | exact Below.refl _ _ | assumption | refine Below.alloc ?_ (by first | omega | (simp; omega) | simp) _ | refine Below.setCell ?_ (by first | omega | (simp; omega) | simp) _ | refine below_drewN' ?_ _ | refine Below.drew ?_))⟩
      first
        | (simp only [refersN]; done)
        | (simp only [refersN]; rw [Bool.eq_iff_iff]; simp; done)
        | (simp only [refersN]; rw [Bool.eq_iff_iff]; simp; omega)
  · go_enter Tryz.func53, Tryz.ntmps53
    go_wp2
    all_goals
      go_ret
      refine ⟨ret_boolV ?_, (by repeat (first | exact Below.refl _ _ | assumption | refine Below.alloc ?_ (by first | omega | (simp; omega) | simp) _ | refine Below.setCell ?_ (by first | omega | (simp; omega) | simp) _ | refine below_drewN' ?_ _ | refine Below.drew ?_))⟩
      first
        | (simp only [refersN]; done)
        | (simp only [refersN]; rw [Bool.eq_iff_iff]; simp; done)
        | (simp only [refersN]; rw [Bool.eq_iff_iff]; simp; omega)
  · go_enter Tryz.func53, Tryz.ntmps53
    go_wp2
    all_goals
      go_ret
      refine ⟨ret_boolV ?_, (by repeat (first | exact Below.refl _ _ | assumption | refine Below.alloc ?_ (by first | omega | (simp; omega) | simp) _ | refine Below.setCell ?_ (by first | omega | (simp; omega) | simp) _ | refine below_drewN' ?_ _ | refine Below.drew ?_))⟩
      first
        | (simp only [refersN]; done)
        | (simp only [refersN]; rw [Bool.eq_iff_iff]; simp; done)
        | (simp only [refersN]; rw [Bool.eq_iff_iff]; simp; omega)
  · go_enter Tryz.func53, Tryz.ntmps53
    go_wp2
    go_quiet (fail)
    go_wp2
    all_goals
      go_ret
      refine ⟨ret_boolV ?_, (by repeat (first | exact Below.refl _ _ | assumption | refine Below.alloc ?_ (by first | omega | (simp; omega) | simp) _ | refine Below.setCell ?_ (by first | omega | (simp; omega) | simp) _ | refine below_drewN' ?_ _ | refine Below.drew ?_))⟩
      first
        | (simp only [refersN]; done)
        | (simp only [refersN]; rw [Bool.eq_iff_iff]; simp; done)
        | (simp only [refersN]; rw [Bool.eq_iff_iff]; simp; omega)
  · go_enter Tryz.func53, Tryz.ntmps53
    go_wp2
    go_quiet (fail)
    go_wp2
    all_goals
      go_ret
      refine ⟨ret_boolV ?_, (by repeat (first | exact Below.refl _ _ | assumption | refine Below.alloc ?_ (by first | omega | (simp; omega) | simp) _ | refine Below.setCell ?_ (by first | omega | (simp; omega) | simp) _ | refine below_drewN' ?_ _ | refine Below.drew ?_))⟩
      first
        | (simp only [refersN]; done)
        | (simp only [refersN]; rw [Bool.eq_iff_iff]; simp; done)
        | (simp only [refersN]; rw [Bool.eq_iff_iff]; simp; omega)
  · go_enter Tryz.func53, Tryz.ntmps53
    go_wp2
    go_quiet (fail)
    go_wp2
    all_goals
      go_ret
      refine ⟨ret_boolV ?_, (by repeat (first | exact Below.refl _ _ | assumption | refine Below.alloc ?_ (by first | omega | (simp; omega) | simp) _ | refine Below.setCell ?_ (by first | omega | (simp; omega) | simp) _ | refine below_drewN' ?_ _ | refine Below.drew ?_))⟩
      first
        | (simp only [refersN]; done)
        | (simp only [refersN]; rw [Bool.eq_iff_iff]; simp; done)
        | (simp only [refersN]; rw [Bool.eq_iff_iff]; simp; omega)
  · go_enter Tryz.func53, Tryz.ntmps53
    go_wp2
    go_quiet (fail)
    go_wp2
    all_goals
      go_ret
      refine ⟨ret_boolV ?_, (by repeat (first | exact Below.refl _ _ | assumption | refine Below.alloc ?_ (by first | omega | (simp; omega) | simp) _ | refine Below.setCell ?_ (by first | omega | (simp; omega) | simp) _ | refine below_drewN' ?_ _ | refine Below.drew ?_))⟩
      first
        | (simp only [refersN]; done)
        | (simp only [refersN]; rw [Bool.eq_iff_iff]; simp; done)
        | (simp only [refersN]; rw [Bool.eq_iff_iff]; simp; omega)
  · have hin : (i : Int) < ni := by omega
    by_cases hg : i < arg
    · have hgz : (i : Int) < arg := by omega
      have hgd : decide ((i : Int) < arg) = true := decide_eq_true hgz
      go_enter Tryz.func53, Tryz.ntmps53
      go_wp2
      go_quiet (fail)
      go_wp2
      all_goals
        go_ret
        refine ⟨ret_boolV ?_, (by repeat (first | exact Below.refl _ _ | assumption | refine Below.alloc ?_ (by first | omega | (simp; omega) | simp) _ | refine Below.setCell ?_ (by first | omega | (simp; omega) | simp) _ | refine below_drewN' ?_ _ | refine Below.drew ?_))⟩
        first
          | (simp only [refersN]; done)
          | (simp only [refersN]; rw [Bool.eq_iff_iff]; simp; done)
          | (simp only [refersN]; rw [Bool.eq_iff_iff]; simp; omega)
    · have hgz : ¬ (i : Int) < arg := by omega
      have hgd : decide ((i : Int) < arg) = false := decide_eq_false hgz
      go_enter Tryz.func53, Tryz.ntmps53
      go_wp2
      go_quiet (fail)
      go_wp2
      all_goals
        go_ret
        refine ⟨ret_boolV ?_, (by repeat (first | exact Below.refl _ _ | assumption | refine Below.alloc ?_ (by first | omega | (simp; omega) | simp) _ | refine Below.setCell ?_ (by first | omega | (simp; omega) | simp) _ | refine below_drewN' ?_ _ | refine Below.drew ?_))⟩
        first
          | (simp only [refersN]; done)
          | (simp only [refersN]; rw [Bool.eq_iff_iff]; simp; done)
          | (simp only [refersN]; rw [Bool.eq_iff_iff]; simp; omega)
  · have hin : (i : Int) < ni := by omega
    by_cases hg : i < arg
    · have hgz : (i : Int) < arg := by omega
      have hgd : decide ((i : Int) < arg) = true := decide_eq_true hgz
      go_enter Tryz.func53, Tryz.ntmps53
      go_wp2
      go_quiet (fail)
      go_wp2
      all_goals
        go_ret
        refine ⟨ret_boolV ?_, (by repeat (first | exact Below.refl _ _ | assumption | refine Below.alloc ?_ (by first | omega | (simp; omega) | simp) _ | refine Below.setCell ?_ (by first | omega | (simp; omega) | simp) _ | refine below_drewN' ?_ _ | refine Below.drew ?_))⟩
        first
          | (simp only [refersN]; done)
          | (simp only [refersN]; rw [Bool.eq_iff_iff]; simp; done)
          | (simp only [refersN]; rw [Bool.eq_iff_iff]; simp; omega)
    · have hgz : ¬ (i : Int) < arg := by omega
      have hgd : decide ((i : Int) < arg) = false := decide_eq_false hgz
      go_enter Tryz.func53, Tryz.ntmps53
      go_wp2
      go_quiet (fail)
      go_wp2
      all_goals
        go_ret
        refine ⟨ret_boolV ?_, (by repeat (first | exact Below.refl _ _ | assumption | refine Below.alloc ?_ (by first | omega | (simp; omega) | simp) _ | refine Below.setCell ?_ (by first | omega | (simp; omega) | simp) _ | refine below_drewN' ?_ _ | refine Below.drew ?_))⟩
        first
          | (simp only [refersN]; done)
          | (simp only [refersN]; rw [Bool.eq_iff_iff]; simp; done)
          | (simp only [refersN]; rw [Bool.eq_iff_iff]; simp; omega)
  · go_enter Tryz.func53, Tryz.ntmps53
    go_wp2
    all_goals
      go_ret
      refine ⟨ret_boolV ?_, (by repeat (first | exact Below.refl _ _ | assumption | refine Below.alloc ?_ (by first | omega | (simp; omega) | simp) _ | refine Below.setCell ?_ (by first | omega | (simp; omega) | simp) _ | refine below_drewN' ?_ _ | refine Below.drew ?_))⟩
      first
        | (simp only [refersN]; done)
        | (simp only [refersN]; rw [Bool.eq_iff_iff]; simp; done)
        | (simp only [refersN]; rw [Bool.eq_iff_iff]; simp; omega)
  · go_enter Tryz.func53, Tryz.ntmps53
    go_wp2
    all_goals
      go_ret
      refine ⟨ret_boolV ?_, (by repeat (first | exact Below.refl _ _ | assumption | refine Below.alloc ?_ (by first | omega | (simp; omega) | simp) _ | refine Below.setCell ?_ (by first | omega | (simp; omega) | simp) _ | refine below_drewN' ?_ _ | refine Below.drew ?_))⟩
      first
        | (simp only [refersN]; done)
        | (simp only [refersN]; rw [Bool.eq_iff_iff]; simp; done)
        | (simp only [refersN]; rw [Bool.eq_iff_iff]; simp; omega)
  · go_enter Tryz.func53, Tryz.ntmps53
    go_wp2
    all_goals
      go_ret
      refine ⟨ret_boolV ?_, (by repeat (first | exact Below.refl _ _ | assumption | refine Below.alloc ?_ (by first | omega | (simp; omega) | simp) _ | refine Below.setCell ?_ (by first | omega | (simp; omega) | simp) _ | refine below_drewN' ?_ _ | refine Below.drew ?_))⟩
      first
        | (simp only [refersN]; done)
        | (simp only [refersN]; rw [Bool.eq_iff_iff]; simp; done)
        | (simp only [refersN]; rw [Bool.eq_iff_iff]; simp; omega)
theorem refers_any (w : World) (cb : Nat) (c : CodeQ) (cv pv gv iv : Value) (l : List PV) (g : List (Option Addr × Nat × Nat)) (h : RCode w cb c cv pv gv iv l g) (i : Nat) (hi : i < c.ins.length) (ho : ∀ x ∈ c.ins, x.1 ≤ 13 ∧ x.2 < 65536) :
    Calls Tryz.prog 53 #[.pointer (some ⟨cb, 0, none⟩), .int .i64 i] w fun e w' => e = .returned (.bool (refersQ c i c.ins[i])) ∧ Below w.heap.size w w' := by
  obtain ⟨ca, cc, rfl⟩ := own_shape h.cs
  obtain ⟨pa, pc, rfl⟩ := own_shape h.ps
  obtain ⟨ga, gc, rfl⟩ := own_shape h.gs
  obtain ⟨gi, ic, rfl⟩ := own_some h.is (by omega)
  have c0 := own_cell h.is _ _ (flatI_get c.ins i hi).1
  have c1 := own_cell h.is _ _ (flatI_get c.ins i hi).2
  have hx := ho c.ins[i] (List.getElem_mem hi)
  exact refers_w w cb i c.ins[i].1 c.ins[i].2 _ _ _ _ ca pa ga cc pc gc ic gi ⟨h.box, hi, c0, c1⟩ hx.1 hx.2 c rfl rfl rfl rfl
def wantsS (op : Nat) : ByteArray := match op with
  | 0 => ⟨#[]⟩
  | 1 => ⟨#[]⟩
  | 2 => ⟨#[114]⟩
  | 3 => ⟨#[110, 110]⟩
  | 4 => ⟨#[110]⟩
  | 9 => ⟨#[]⟩
  | 11 => ⟨#[97]⟩
  | 12 => ⟨#[97]⟩
  | 13 => ⟨#[]⟩
  | _ => ⟨#[118]⟩
set_option maxRecDepth 100000 in
theorem wants_any (op : Nat) (w : World) (hop : op ≤ 13) :
    Calls Tryz.prog 54 #[.int .i64 op] w fun e w' => e = .returned (.string (wantsS op)) ∧ w' = w := by
  rcases (by omega : op = 0 ∨ op = 1 ∨ op = 2 ∨ op = 3 ∨ op = 4 ∨ op = 5 ∨ op = 6 ∨ op = 7 ∨ op = 8 ∨ op = 9 ∨ op = 10 ∨ op = 11 ∨ op = 12 ∨ op = 13) with rfl | rfl | rfl | rfl | rfl | rfl | rfl | rfl | rfl | rfl | rfl | rfl | rfl | rfl
  all_goals
    go_enter Tryz.func54, Tryz.ntmps54
    go_wp2
    go_ret
    exact ⟨rfl, rfl⟩
def kl (k : Nat) : UInt8 := match k with
  | 1 => 115
  | 2 => 118
  | 3 => 114
  | _ => 45
theorem kl_inj {x y : Nat} (hx : x ≤ 3) (hy : y ≤ 3) (h : kl x = kl y) : x = y := by
  rcases (by omega : x = 0 ∨ x = 1 ∨ x = 2 ∨ x = 3) with rfl | rfl | rfl | rfl <;> rcases (by omega : y = 0 ∨ y = 1 ∨ y = 2 ∨ y = 3) with rfl | rfl | rfl | rfl <;> first | rfl | exact absurd h (by decide)
def baOf (l : List UInt8) : ByteArray := ⟨l.toArray⟩
theorem bl_baOf (l : List UInt8) : bl (baOf l) = l := bl_mk l
theorem baOf_size (l : List UInt8) : (baOf l).size = l.length := by rw [← bl_length, bl_baOf]
def stL (st : List Nat) : List UInt8 := (st.map kl).reverse
def stB (st : List Nat) : ByteArray := baOf (stL st)
def slB (sl : List Nat) : ByteArray := baOf (sl.map kl)
theorem stL_length (st : List Nat) : (stL st).length = st.length := by simp [stL]
theorem stB_size (st : List Nat) : (stB st).size = st.length := by unfold stB; rw [baOf_size, stL_length]
theorem slB_size (sl : List Nat) : (slB sl).size = sl.length := by unfold slB; rw [baOf_size, List.length_map]
theorem bl_stB (st : List Nat) : bl (stB st) = stL st := bl_baOf _
theorem bl_slB (sl : List Nat) : bl (slB sl) = sl.map kl := bl_baOf _
theorem map_inj3 : ∀ {x y : List Nat}, (∀ k ∈ x, k ≤ 3) → (∀ k ∈ y, k ≤ 3) → x.map kl = y.map kl → x = y
  | [], [], _, _, _ => rfl
  | [], _ :: _, _, _, h => nomatch h
  | _ :: _, [], _, _, h => nomatch h
  | a :: x, b :: y, hx, hy, h => by
    rw [List.map_cons, List.map_cons] at h
    injection h with h1 h2
    rw [kl_inj (hx a (by simp)) (hy b (by simp)) h1, map_inj3 (fun k hk => hx k (by simp [hk])) (fun k hk => hy k (by simp [hk])) h2]
theorem stB_inj {x y : List Nat} (hx : ∀ k ∈ x, k ≤ 3) (hy : ∀ k ∈ y, k ≤ 3) : stB x = stB y ↔ x = y := by
  constructor
  · intro h
    have h1 : stL x = stL y := by rw [← bl_stB, ← bl_stB, h]
    exact map_inj3 hx hy (List.reverse_inj.1 h1)
  · intro h; rw [h]
theorem bl_beqV (a b : ByteArray) : (a.toList == b.toList) = decide (a = b) := by
  by_cases h : a = b
  · subst h; simp
  · rw [decide_eq_false h, beq_eq_false_iff_ne]
    intro e
    exact h (bl_inj (by rw [← toList_bl, ← toList_bl, e]))
theorem stL_take (st : List Nat) (m : Nat) : (stL st).take (st.length - m) = stL (st.drop m) := by
  unfold stL
  rw [List.take_reverse, List.length_map, List.map_drop]
  by_cases h : m ≤ st.length
  · congr 2; omega
  · rw [List.drop_of_length_le (by rw [List.length_map]; omega), List.drop_of_length_le (by rw [List.length_map]; omega)]
theorem stL_drop (st : List Nat) (m : Nat) (h : m ≤ st.length) : (stL st).drop (st.length - m) = stL (st.take m) := by
  unfold stL
  rw [List.drop_reverse, List.length_map, List.map_take]
  congr 2; omega
theorem stB_low (st : List Nat) (m : Nat) : (stB st).extract 0 (st.length - m) = stB (st.drop m) := bl_inj (by rw [bl_extract, bl_stB, bl_stB, List.drop_zero, stL_take])
theorem stB_took (st : List Nat) (m : Nat) (h : m ≤ st.length) : (stB st).extract (st.length - m) st.length = stB (st.take m) := bl_inj (by
  rw [bl_extract, bl_stB, bl_stB, List.take_of_length_le (by rw [stL_length]; exact Nat.le_refl _), stL_drop st m h])
theorem stB_app (x y : List Nat) : stB x ++ stB y = stB (y ++ x) := bl_inj (by rw [bl_app2, bl_stB, bl_stB, bl_stB]; simp [stL])
def okL (a b : UInt8) : Bool := a == 97 || (a == b || (a == 110 && b != 114))
def fitsB (s w : ByteArray) : Bool := decide (w.size ≤ s.size) && (List.range w.size).all fun j => okL ((bl w).getD j 0) ((bl s).getD (s.size - w.size + j) 0)
def fitK (op : Nat) (st : List Nat) : Bool := match op with
  | 0 => true
  | 1 => true
  | 2 => match st with
    | k :: _ => decide (k = 3)
    | [] => false
  | 3 => match st with
    | y :: k :: _ => plainK k && plainK y
    | _ => false
  | 4 => match st with
    | k :: _ => plainK k
    | [] => false
  | 9 => true
  | 11 => match st with
    | _ :: _ => true
    | [] => false
  | 12 => match st with
    | _ :: _ => true
    | [] => false
  | 13 => true
  | _ => match st with
    | k :: _ => decide (k = 2)
    | [] => false
theorem top_one (k : Nat) (r : List Nat) : (bl (stB (k :: r))).getD ((stB (k :: r)).size - 1 + 0) 0 = kl k := by
  rw [bl_stB, stB_size]; simp [stL, List.getD_eq_getElem?_getD]
theorem top_two0 (y k : Nat) (r : List Nat) : (bl (stB (y :: k :: r))).getD ((stB (y :: k :: r)).size - 2 + 0) 0 = kl k := by
  rw [bl_stB, stB_size]; simp [stL, List.getD_eq_getElem?_getD]
theorem top_two1 (y k : Nat) (r : List Nat) : (bl (stB (y :: k :: r))).getD ((stB (y :: k :: r)).size - 2 + 1) 0 = kl y := by
  rw [bl_stB, stB_size]; simp [stL, List.getD_eq_getElem?_getD]
theorem fits_none (s w : ByteArray) (h : w.size = 0) : fitsB s w = true := by unfold fitsB; rw [h]; rfl
theorem fits_nil (w : ByteArray) (h : 0 < w.size) : fitsB (stB []) w = false := by
  unfold fitsB; rw [show (stB []).size = 0 from rfl, decide_eq_false (by omega)]; rfl
theorem fits_one (a : UInt8) (k : Nat) (r : List Nat) : fitsB (stB (k :: r)) ⟨#[a]⟩ = okL a (kl k) := by
  unfold fitsB
  rw [show (⟨#[a]⟩ : ByteArray).size = 1 from rfl, decide_eq_true (by rw [stB_size, List.length_cons]; omega), show List.range 1 = [0] from rfl]
  simp only [List.all_cons, List.all_nil, Bool.and_true, Bool.true_and]
  rw [top_one]; rfl
theorem ok_r (k : Nat) (h : k ≤ 3) : okL 114 (kl k) = decide (k = 3) := by
  rcases (by omega : k = 0 ∨ k = 1 ∨ k = 2 ∨ k = 3) with rfl | rfl | rfl | rfl <;> rfl
theorem ok_v (k : Nat) (h : k ≤ 3) : okL 118 (kl k) = decide (k = 2) := by
  rcases (by omega : k = 0 ∨ k = 1 ∨ k = 2 ∨ k = 3) with rfl | rfl | rfl | rfl <;> rfl
theorem ok_n (k : Nat) (h : k ≤ 3) (h0 : k ≠ 0) : okL 110 (kl k) = plainK k := by
  rcases (by omega : k = 1 ∨ k = 2 ∨ k = 3) with rfl | rfl | rfl <;> rfl
theorem ok_a (b : UInt8) : okL 97 b = true := rfl
theorem fits_K (op : Nat) (st : List Nat) (hop : op ≤ 13) (hs : ∀ k ∈ st, k ≠ 0 ∧ k ≤ 3) : fitsB (stB st) (wantsS op) = fitK op st := by
  rcases (by omega : op = 0 ∨ op = 1 ∨ op = 2 ∨ op = 3 ∨ op = 4 ∨ op = 5 ∨ op = 6 ∨ op = 7 ∨ op = 8 ∨ op = 9 ∨ op = 10 ∨ op = 11 ∨ op = 12 ∨ op = 13) with rfl | rfl | rfl | rfl | rfl | rfl | rfl | rfl | rfl | rfl | rfl | rfl | rfl | rfl
  case inr.inr.inr.inl =>
    cases st with
    | nil => exact fits_nil _ (by decide)
    | cons y r =>
      cases r with
      | nil => rfl
      | cons k r =>
        show fitsB (stB (y :: k :: r)) ⟨#[110, 110]⟩ = (plainK k && plainK y)
        unfold fitsB
        rw [show (⟨#[110, 110]⟩ : ByteArray).size = 2 from rfl, decide_eq_true (by rw [stB_size, List.length_cons, List.length_cons]; omega), show List.range 2 = [0, 1] from rfl]
        simp only [List.all_cons, List.all_nil, Bool.and_true, Bool.true_and]
        rw [top_two0, top_two1]
        have hk := hs k (by simp)
        have hy := hs y (by simp)
        show (okL 110 (kl k) && okL 110 (kl y)) = _
        rw [ok_n k hk.2 hk.1, ok_n y hy.2 hy.1]
  all_goals first
    | exact fits_none _ _ rfl
    | (cases st with
       | nil => exact fits_nil _ (by decide)
       | cons k r =>
         have hk := hs k (by simp)
         first
           | exact (fits_one 114 k r).trans (ok_r k hk.2)
           | exact (fits_one 110 k r).trans (ok_n k hk.2 hk.1)
           | exact (fits_one 97 k r).trans (ok_a _)
           | exact (fits_one 118 k r).trans (ok_v k hk.2))
def putsB (c : CodeQ) (op arg : Nat) (took sl : ByteArray) : ByteArray := match op with
  | 0 => ⟨#[115]⟩
  | 1 => if (c.picks[arg]?.map kindOfP).getD 0 = 3 then ⟨#[114]⟩ else ⟨#[118]⟩
  | 3 => if took = ⟨#[115, 115]⟩ then ⟨#[115]⟩ else ⟨#[118]⟩
  | 4 => took
  | 9 => ⟨#[]⟩
  | 10 => took
  | 11 => ⟨#[]⟩
  | 12 => ⟨#[]⟩
  | 13 => sl.extract arg (arg + 1)
  | _ => ⟨#[118]⟩
def hasB (op arg : Nat) (took sl : ByteArray) : ByteArray := if op = 12 then sl.extract 0 arg ++ took ++ sl.extract (arg + 1) sl.size else sl
theorem pickK (c : CodeQ) (arg : Nat) (h : arg < c.picks.length) : (c.picks[arg]?.map kindOfP).getD 0 = 3 ∨ (c.picks[arg]?.map kindOfP).getD 0 = 2 := by
  rw [List.getElem?_eq_getElem h]
  show kindOfP _ = 3 ∨ kindOfP _ = 2
  unfold kindOfP; split <;> simp
theorem slB_one (sl : List Nat) (a : Nat) (h : a < sl.length) : (slB sl).extract a (a + 1) = stB [sl.getD a 0] := bl_inj (by
  rw [bl_extract, bl_slB, bl_stB, List.drop_take]
  rw [show a + 1 - a = 1 by omega, List.drop_eq_getElem_cons (by rw [List.length_map]; exact h)]
  simp [stL, List.getD_eq_getElem?_getD, h])
theorem slB_get (sl : List Nat) (a : Nat) (h : a < sl.length) : (bl (slB sl)).getD a 0 = kl (sl.getD a 0) := by
  rw [bl_slB]; simp [List.getD_eq_getElem?_getD, h]
theorem slB_set (sl : List Nat) (a k : Nat) (h : a < sl.length) : (slB sl).extract 0 a ++ stB [k] ++ (slB sl).extract (a + 1) (slB sl).size = slB (sl.set a k) := bl_inj (by
  rw [bl_app2, bl_app2, bl_extract, bl_extract, bl_stB, bl_slB, bl_slB, slB_size, List.drop_zero, List.take_of_length_le (i := sl.length) (by rw [List.length_map]; exact Nat.le_refl _)]
  rw [List.set_eq_take_append_cons_drop, if_pos h, List.map_append, List.map_cons, List.map_take, List.map_drop]
  simp [stL])
structure DocStep (c : CodeQ) (op arg : Nat) (st sl : List Nat) (S L W : ByteArray) : Prop where
  wle : W.size ≤ 2
  no : fitsB S W = false → stepQ c (op, arg) st sl = none
  le : fitsB S W = true → W.size ≤ S.size
  ld : op = 13 → arg < L.size
  no2 : op = 13 → (bl L).getD arg 0 = 45 → stepQ c (op, arg) st sl = none
  big : fitsB S W = true → (op = 13 → ¬ (bl L).getD arg 0 = 45) → 64 < (S.extract 0 (S.size - W.size) ++ putsB c op arg (S.extract (S.size - W.size) S.size) L).size → stepQ c (op, arg) st sl = none
  ok : fitsB S W = true → (op = 13 → ¬ (bl L).getD arg 0 = 45) → ¬ 64 < (S.extract 0 (S.size - W.size) ++ putsB c op arg (S.extract (S.size - W.size) S.size) L).size → ∃ st' sl', stepQ c (op, arg) st sl = some (st', sl') ∧ S.extract 0 (S.size - W.size) ++ putsB c op arg (S.extract (S.size - W.size) S.size) L = stB st' ∧ hasB op arg (S.extract (S.size - W.size) S.size) L = slB sl'
theorem wantsS_le (op : Nat) : (wantsS op).size ≤ 2 := by unfold wantsS; split <;> decide
theorem fitsB_le {S W : ByteArray} (h : fitsB S W = true) : W.size ≤ S.size := by
  unfold fitsB at h; rw [Bool.and_eq_true] at h; exact of_decide_eq_true h.1
theorem doc_of {c : CodeQ} {op arg : Nat} {st sl : List Nat} {W : ByteArray} (hw : W.size ≤ 2) (hn : fitsB (stB st) W = false → stepQ c (op, arg) st sl = none)
    (hld : op = 13 → arg < sl.length ∧ (sl.getD arg 0 = 0 → stepQ c (op, arg) st sl = none))
    (h : fitsB (stB st) W = true → (op = 13 → sl.getD arg 0 ≠ 0) → ∃ P sl', putsB c op arg (stB (st.take W.size)) (slB sl) = stB P ∧ hasB op arg (stB (st.take W.size)) (slB sl) = slB sl' ∧ stepQ c (op, arg) st sl = if 64 < (P ++ st.drop W.size).length then none else some (P ++ st.drop W.size, sl'))
    (hk : ∀ k ∈ sl, k ≤ 3) :
    DocStep c op arg st sl (stB st) (slB sl) W := by
  have hz : op = 13 → ((bl (slB sl)).getD arg 0 = 45 ↔ sl.getD arg 0 = 0) := fun e => by
    rw [slB_get sl arg (hld e).1]
    have h3 : sl.getD arg 0 ≤ 3 := by
      rw [List.getD_eq_getElem?_getD, List.getElem?_eq_getElem (hld e).1]; exact hk _ (List.getElem_mem _)
    constructor
    · intro hh; exact kl_inj h3 (by decide) hh
    · intro hh; rw [hh]; rfl
  refine ⟨hw, hn, fitsB_le, fun e => by rw [slB_size]; exact (hld e).1, fun e h1 => (hld e).2 ((hz e).1 h1), fun h1 h2 h3 => ?_, fun h1 h2 h3 => ?_⟩
  · obtain ⟨P, sl', hp, _, hs⟩ := h h1 (fun e h4 => h2 e ((hz e).2 h4))
    have hle := fitsB_le h1
    rw [stB_size] at hle
    rw [stB_size, stB_low, stB_took st _ hle, hp, stB_app, stB_size] at h3
    rw [hs, if_pos h3]
  · obtain ⟨P, sl', hp, hh, hs⟩ := h h1 (fun e h4 => h2 e ((hz e).2 h4))
    have hle := fitsB_le h1
    rw [stB_size] at hle
    rw [stB_size, stB_low, stB_took st _ hle, hp, stB_app, stB_size] at h3
    refine ⟨P ++ st.drop W.size, sl', ?_, ?_, ?_⟩
    · rw [hs, if_neg h3]
    · rw [stB_size, stB_low, stB_took st _ hle, hp, stB_app]
    · rw [stB_size, stB_took st _ hle, hh]
theorem push_if (k : Nat) (st sl : List Nat) (h : st.length ≤ 64) : pushQ k st sl = if 64 < ([k] ++ st).length then none else some ([k] ++ st, sl) := by
  unfold pushQ
  by_cases hh : st.length = 64
  · rw [if_pos hh, if_pos (by simp; omega)]
  · rw [if_neg hh, if_neg (by simp; omega)]; rfl
theorem keep_if (st sl : List Nat) (h : st.length ≤ 64) : some (st, sl) = if 64 < ([] ++ st).length then none else some ([] ++ st, sl) := by
  rw [if_neg (by simp; omega)]; rfl
theorem doc_step (c : CodeQ) (i op arg : Nat) (st sl : List Nat) (hop : op ≤ 13) (hr : refersQ c i (op, arg) = true) (hl : st.length ≤ 64) (hs : ∀ k ∈ st, k ≠ 0 ∧ k ≤ 3) (hsl : sl.length = 16) (hk : ∀ k ∈ sl, k ≤ 3) :
    DocStep c op arg st sl (stB st) (slB sl) (wantsS op) := by
  refine doc_of (wantsS_le op) ?_ ?_ ?_ hk
  · intro hf
    rw [fits_K op st hop hs] at hf
    rcases (by omega : (op = 0 ∨ op = 1 ∨ op = 9 ∨ op = 13) ∨ op = 2 ∨ op = 3 ∨ op = 4 ∨ (op = 11 ∨ op = 12) ∨ (op = 5 ∨ op = 6 ∨ op = 7 ∨ op = 8 ∨ op = 10)) with h0 | rfl | rfl | rfl | h0 | h0
    · rcases h0 with rfl | rfl | rfl | rfl <;> cases hf
    · cases st with
      | nil => rfl
      | cons k r =>
        have hf := of_decide_eq_false hf
        simp only [stepQ]
        rw [if_neg hf]
    · cases st with
      | nil => rfl
      | cons y r =>
        cases r with
        | nil => rfl
        | cons k r =>
          have hf : (plainK k && plainK y) = false := hf
          show (if (plainK k && plainK y) = true then _ else none) = none
          rw [hf]; rfl
    · cases st with
      | nil => rfl
      | cons k r =>
        have hf : plainK k = false := hf
        show (if plainK k = true then _ else none) = none
        rw [hf]; rfl
    · cases st with
      | nil => rcases h0 with rfl | rfl <;> rfl
      | cons k r => rcases h0 with rfl | rfl <;> cases hf
    · cases st with
      | nil => rcases h0 with rfl | rfl | rfl | rfl | rfl <;> rfl
      | cons k r =>
        have hk2 : ¬ k = 2 := by rcases h0 with rfl | rfl | rfl | rfl | rfl <;> exact of_decide_eq_false hf
        rcases h0 with rfl | rfl | rfl | rfl | rfl <;> (show (if k = 2 then _ else none) = none; rw [if_neg hk2])
  · rintro rfl
    have ha : arg < 16 := by simpa [refersQ] using hr
    refine ⟨by omega, fun h0 => ?_⟩
    simp only [stepQ]
    rw [if_pos h0]
  · intro hf hl13
    rw [fits_K op st hop hs] at hf
    rcases (by omega : op = 0 ∨ op = 1 ∨ op = 2 ∨ op = 3 ∨ op = 4 ∨ op = 9 ∨ op = 10 ∨ op = 11 ∨ op = 12 ∨ op = 13 ∨ (op = 5 ∨ op = 6 ∨ op = 7 ∨ op = 8)) with rfl | rfl | rfl | rfl | rfl | rfl | rfl | rfl | rfl | rfl | hgr
    · exact ⟨[1], sl, rfl, rfl, push_if _ _ _ hl⟩
    · have ha : arg < c.picks.length := by simpa [refersQ] using hr
      rcases pickK c arg ha with h3 | h3
      · exact ⟨[3], sl, by show (if _ then _ else _) = _; rw [if_pos h3]; rfl, rfl, by
          simp only [stepQ]; rw [h3]; exact push_if _ _ _ hl⟩
      · exact ⟨[2], sl, by show (if _ then _ else _) = _; rw [if_neg (by omega)]; rfl, rfl, by
          simp only [stepQ]; rw [h3]; exact push_if _ _ _ hl⟩
    · cases st with
      | nil => cases hf
      | cons k r =>
        have hk3 : k = 3 := of_decide_eq_true hf
        exact ⟨[2], sl, rfl, rfl, by
          simp only [stepQ]; rw [if_pos hk3]; exact push_if _ _ _ (by simp only [List.length_cons] at hl; omega)⟩
    · cases st with
      | nil => cases hf
      | cons y r =>
        cases r with
        | nil => cases hf
        | cons k r =>
          have hf : (plainK k && plainK y) = true := hf
          have hp := hf
          rw [Bool.and_eq_true] at hp
          have h1 : k = 1 ∨ k = 2 := by simpa [plainK] using hp.1
          have h2 : y = 1 ∨ y = 2 := by simpa [plainK] using hp.2
          have hl2 : r.length ≤ 64 := by simp only [List.length_cons] at hl; omega
          refine ⟨[max k y], sl, ?_, rfl, ?_⟩
          · rcases h1 with rfl | rfl <;> rcases h2 with rfl | rfl <;> rfl
          · simp only [stepQ]; rw [if_pos hf]; exact push_if _ _ _ hl2
    · cases st with
      | nil => cases hf
      | cons k r =>
        have hp : plainK k = true := hf
        exact ⟨[k], sl, rfl, rfl, by
          simp only [stepQ]; rw [if_pos hp]; exact push_if _ _ _ (by simp only [List.length_cons] at hl; omega)⟩
    · exact ⟨[], sl, rfl, rfl, keep_if _ _ hl⟩
    · cases st with
      | nil => cases hf
      | cons k r =>
        have hk3 : k = 2 := of_decide_eq_true hf
        subst hk3
        exact ⟨[2], sl, rfl, rfl, by
          simp only [stepQ]; exact push_if _ _ _ (by simp only [List.length_cons] at hl; omega)⟩
    · cases st with
      | nil => cases hf
      | cons k r => exact ⟨[], sl, rfl, rfl, keep_if _ _ (by simp only [List.length_cons] at hl; omega)⟩
    · cases st with
      | nil => cases hf
      | cons k r =>
        have ha : arg < 16 := by simpa [refersQ] using hr
        exact ⟨[], sl.set arg k, rfl, by
          unfold hasB; rw [if_pos rfl]; exact slB_set sl arg k (by omega), keep_if _ _ (by simp only [List.length_cons] at hl; omega)⟩
    · have ha : arg < 16 := by simpa [refersQ] using hr
      have h0 := hl13 rfl
      exact ⟨[sl.getD arg 0], sl, slB_one sl arg (by omega), rfl, by
        simp only [stepQ]; rw [if_neg h0]; exact push_if _ _ _ hl⟩
    · cases st with
      | nil => rcases hgr with rfl | rfl | rfl | rfl <;> cases hf
      | cons k r =>
        have hk3 : k = 2 := by rcases hgr with rfl | rfl | rfl | rfl <;> exact of_decide_eq_true hf
        subst hk3
        have hl2 : r.length ≤ 64 := by simp only [List.length_cons] at hl; omega
        rcases hgr with rfl | rfl | rfl | rfl <;> exact ⟨[2], sl, rfl, rfl, by
          simp only [stepQ]; exact push_if _ _ _ hl2⟩
theorem step_three {c : CodeQ} {x : Nat × Nat} {st sl st' sl' : List Nat} (h2 : ∀ k ∈ st, k ≤ 3) (h3 : ∀ k ∈ sl, k ≤ 3) (h : stepQ c x st sl = some (st', sl')) : (∀ k ∈ st', k ≤ 3) ∧ (∀ k ∈ sl', k ≤ 3) := by
  have push : ∀ {k : Nat} {r s : List Nat}, k ≤ 3 → (∀ k ∈ r, k ≤ 3) → (∀ k ∈ s, k ≤ 3) → pushQ k r s = some (st', sl') → (∀ k ∈ st', k ≤ 3) ∧ (∀ k ∈ sl', k ≤ 3) := fun {k r s} hk hr hs h => by
    unfold pushQ at h
    split at h
    · cases h
    · injection h with h; injection h with e1 e2; subst e1; subst e2
      exact ⟨fun x hx => by
        rcases List.mem_cons.1 hx with rfl | hx
        · exact hk
        · exact hr x hx, hs⟩
  have keep : ∀ {r s : List Nat}, (∀ k ∈ r, k ≤ 3) → (∀ k ∈ s, k ≤ 3) → some (r, s) = some (st', sl') → (∀ k ∈ st', k ≤ 3) ∧ (∀ k ∈ sl', k ≤ 3) := fun {r s} hr hs h => by
    injection h with h; injection h with e1 e2; subst e1; subst e2; exact ⟨hr, hs⟩
  obtain ⟨op, arg⟩ := x
  unfold stepQ at h
  simp only at h
  split at h
  · exact push (by decide) h2 h3 h
  · refine push ?_ h2 h3 h
    cases c.picks[arg]? with
    | none => decide
    | some y => show kindOfP y ≤ 3; unfold kindOfP; split <;> decide
  · split at h
    · split at h
      · exact push (by decide) (fun k hk => h2 k (by simp [hk])) h3 h
      · cases h
    · cases h
  · split at h
    · rename_i y k r
      split at h
      · exact push (by have := h2 y (by simp); have := h2 k (by simp); omega) (fun k hk => h2 k (by simp [hk])) h3 h
      · cases h
    · cases h
  · split at h
    · rename_i k r
      split at h
      · exact push (h2 k (by simp)) (fun k hk => h2 k (by simp [hk])) h3 h
      · cases h
    · cases h
  · exact keep h2 h3 h
  · split at h
    · exact keep (fun k hk => h2 k (by simp [hk])) h3 h
    · cases h
  · split at h
    · rename_i k r
      exact keep (fun k hk => h2 k (by simp [hk])) (fun x hx => by
        rcases List.mem_or_eq_of_mem_set hx with hx | hx
        · exact h3 x hx
        · rw [hx]; exact h2 k (by simp)) h
    · cases h
  · split at h
    · cases h
    · refine push ?_ h2 h3 h
      rw [List.getD_eq_getElem?_getD]
      cases hg : sl[arg]? with
      | none => decide
      | some k => exact h3 k (List.mem_of_getElem? hg)
  · split at h
    · split at h
      · exact push (by decide) (fun k hk => h2 k (by simp [hk])) h3 h
      · cases h
    · cases h
end Go.Proofs.YtkodhpilkaihjaaGreatDoor
