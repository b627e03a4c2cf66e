/- Parts of the proof, joined: QTree, QToks, QSt -/
import Derived.Test.YtmncdbepjhmkgaaGreatDoorJ02
import Derived.Deep.Trees
import Derived.Test.YtmncdbepjhmkgaaGreatDoorJ03
import Derived.Deep.RegionWith
import Derived.Deep.DeepCutAuto
import Derived.Deep.Heap
/- Queries as trees, as plain functions on tokens: how they are read, what kind they are of, how they are printed. -/
namespace Go.Proofs.YtmncdbepjhmkgaaGreatDoor.LS
open Go Go.RowKit

structure Nd where
  kind : Nat
  op : Nat
  n : Int
  name : List UInt8
  conds : List (List UInt8 × List UInt8 × Bool)
  by_ : List (List UInt8)
abbrev Tr := Go.Deep.BT Nd
abbrev Out (α : Type) := Except (Nat × Nat) (α × List Tok)
def leafT (a : Nd) : Tr := .node 0 0 a .nil .nil
def nd0 (kind op : Nat) : Nd := ⟨kind, op, 0, [], [], []⟩
/-- all tokens from a place on: the last is the end, or the first that can stand nowhere. -/
def lexAll (l : List UInt8) : Nat → Nat → List Tok
  | 0, _ => []
  | n + 1, i => if (lexAt l i).1.kind = 0 ∨ (lexAt l i).1.kind = 5 then [(lexAt l i).1] else (lexAt l i).1 :: lexAll l n (lexAt l i).2
def hd (ts : List Tok) : Tok := ts.headD ⟨0, [], 0⟩
def wOr : List UInt8 := [111, 114]
def wBy : List UInt8 := [98, 121]
def groupWords : List (List UInt8) := [[115, 117, 109], [109, 97, 120], [109, 105, 110], [99, 111, 117, 110, 116]]
def overWords : List (List UInt8) := [[116, 111, 116, 97, 108], [112, 101, 97, 107], [108, 111, 119], [115, 105, 122, 101], [114, 105, 115, 101]]
def idx (w : List UInt8) : List (List UInt8) → Option Nat
  | [] => none
  | x :: l => if x = w then some 0 else (idx w l).map (· + 1)
def isT (s : List UInt8) (t : Tok) : Bool := (t.kind == 2 || t.kind == 4) && t.txt == s
def bnd {α β : Type} (x : Out α) (f : α → List Tok → Out β) : Out β := match x with
  | .error e => .error e
  | .ok (a, ts) => f a ts
def takeP (s : List UInt8) (ts : List Tok) : Out Unit := if isT s (hd ts) then .ok ((), ts.tail) else .error (2, (hd ts).at_)
def kindP (k : Nat) (ts : List Tok) : Out (List UInt8) := if (hd ts).kind = k then .ok ((hd ts).txt, ts.tail) else .error (2, (hd ts).at_)
def listP {α : Type} (item : List Tok → Out α) (close : List UInt8) : Nat → List α → List Tok → Out (List α)
  | 0, _, _ => .error (0, 0)
  | n + 1, acc, ts => if isT close (hd ts) then .ok (acc, ts.tail) else
    bnd (if acc.isEmpty then .ok ((), ts) else takeP [44] ts) fun _ r => bnd (item r) fun a r => listP item close n (acc ++ [a]) r
def signP (ts : List Tok) : Out Bool := if isT [33, 61] (hd ts) then .ok (true, ts.tail) else bnd (takeP [61] ts) fun _ r => .ok (false, r)
def condP (ts : List Tok) : Out (List UInt8 × List UInt8 × Bool) := bnd (kindP 2 ts) fun a r => bnd (signP r) fun n r => bnd (kindP 3 r) fun b r => .ok ((a, b, n), r)
def reserved (t : Tok) : Bool := (idx t.txt groupWords).isSome || (idx t.txt overWords).isSome || isT wOr t || isT wBy t
def nameP (ts : List Tok) : Out (List UInt8) := if reserved (hd ts) then .error (2, (hd ts).at_) else kindP 2 ts
def selP (ts : List Tok) : Out Nd := bnd (nameP ts) fun a r => if isT [123] (hd r) then bnd (listP condP [125] r.length [] r.tail) fun cs r => .ok (⟨1, 0, 0, a, cs, []⟩, r) else .ok (⟨1, 0, 0, a, [], []⟩, r)
def sizeP (ts : List Tok) : Out Int := if (hd ts).kind = 1 ∧ 1 ≤ numI 1000 (hd ts).txt then .ok (numI 1000 (hd ts).txt, ts.tail) else .error (2, (hd ts).at_)
def winP (o : Nat) (ts : List Tok) : Out Tr := bnd (takeP [40] ts) fun _ r => bnd (selP r) fun p r => bnd (takeP [91] r) fun _ r => bnd (sizeP r) fun n r => bnd (takeP [93] r) fun _ r => bnd (takeP [41] r) fun _ r => .ok (leafT ⟨2, o, n, p.name, p.conds, []⟩, r)
def withinP (rec : Nat → List Tok → Nat → Out Tr) (ts : List Tok) (deep : Nat) : Out Tr := bnd (takeP [40] ts) fun _ r => bnd (rec 0 r deep) fun a r => bnd (takeP [41] r) fun _ r => .ok (a, r)
def groupP (rec : Nat → List Tok → Nat → Out Tr) (g : Nat) (ts : List Tok) (deep : Nat) : Out Tr := bnd (takeP wBy ts) fun _ r => bnd (takeP [40] r) fun _ r => bnd (listP (kindP 2) [41] (r.length + 1) [] r) fun ns r => bnd (withinP rec r deep) fun a r => .ok (.node 0 0 ⟨5, g, 0, [], [], ns⟩ a .nil, r)
def startsT (t : Tok) : Bool := t.kind == 1 || isT [45] t || isT [40] t || (t.kind == 2 && !isT wOr t && !isT wBy t)
def numV (l : List UInt8) : Int := ((number 1000000000 l).getD 0 : Nat)
def innerP (rec : Nat → List Tok → Nat → Out Tr) (ts : List Tok) (deep : Nat) : Out Tr :=
  if (hd ts).kind = 1 then .ok (leafT ⟨0, 0, numV (hd ts).txt, [], [], []⟩, ts.tail)
  else if isT [45] (hd ts) then bnd (rec 3 ts.tail deep) fun a r => .ok (.node 0 0 (nd0 3 0) a .nil, r)
  else if isT [40] (hd ts) then withinP rec ts deep
  else match idx (hd ts).txt groupWords with
    | some g => groupP rec g ts.tail deep
    | none => match idx (hd ts).txt overWords with
      | some o => winP o ts.tail
      | none => bnd (selP ts) fun p r => .ok (leafT p, r)
def factorP (rec : Nat → List Tok → Nat → Out Tr) (ts : List Tok) (deep : Nat) : Out Tr :=
  if startsT (hd ts) then (if deep = 20 then .error (3, (hd ts).at_) else innerP rec ts (deep + 1)) else .error (2, (hd ts).at_)
def opAt (lv : Nat) (t : Tok) : Option (Nat × Nat) :=
  if lv = 0 then (if isT wOr t then some (6, 0) else none)
  else if lv = 1 then (if isT [43] t then some (4, 0) else if isT [45] t then some (4, 1) else none)
  else (if isT [42] t then some (4, 2) else if isT [47] t then some (4, 3) else none)
/-- false: a part of the line lv; true: what stands behind the part a of that line. -/
def parse : Nat → Bool → Nat → Tr → List Tok → Nat → Out Tr
  | 0, _, _, _, _, _ => .error (0, 0)
  | n + 1, false, lv, _, ts, deep => if lv = 3 then factorP (fun lv ts d => parse n false lv .nil ts d) ts deep
    else bnd (parse n false (lv + 1) .nil ts deep) fun a r => parse n true lv a r deep
  | n + 1, true, lv, a, ts, deep => match opAt lv (hd ts) with
    | none => .ok (a, ts)
    | some p => bnd (parse n false (lv + 1) .nil ts.tail deep) fun b r => parse n true lv (.node 0 0 (nd0 p.1 p.2) a b) r deep
/-- 1 a scalar, 2 a vector, 0: a part is of a kind that cannot be there. -/
def kindT : Tr → Nat
  | .nil => 1
  | .node _ _ a l r => if a.kind = 0 then 1 else if a.kind = 1 ∨ a.kind = 2 then 2 else if a.kind = 3 then kindT l
    else if a.kind = 5 then (if kindT l = 2 then 2 else 0)
    else if kindT l = 0 ∨ kindT r = 0 ∨ (a.kind = 6 ∧ kindT l + kindT r ≠ 4) then 0 else if kindT l + kindT r = 2 then 1 else 2
def readQ (l : List UInt8) : Except (Nat × Nat) Tr :=
  if 300 < l.length then .error (1, 0) else
  match parse (10 * (lexAll l (l.length + 1) 0).length + 5) false 0 .nil (lexAll l (l.length + 1) 0) 0 with
  | .error e => .error e
  | .ok (t, r) => if (hd r).kind = 0 then (if kindT t = 0 then .error (4, 0) else .ok t) else .error (2, (hd r).at_)
def tightT (a : Nd) : Nat := if a.kind = 6 then 1 else if a.kind = 4 then (if a.op < 2 then 2 else 3) else 4
def commas : List (List UInt8) → List UInt8
  | [] => []
  | [a] => a
  | a :: l => a ++ 44 :: commas l
def condS (c : List UInt8 × List UInt8 × Bool) : List UInt8 := c.1 ++ (if c.2.2 then [33, 61] else [61]) ++ [34] ++ c.2.1 ++ [34]
def selS (a : Nd) : List UInt8 := if a.conds = [] then a.name else a.name ++ [123] ++ commas (a.conds.map condS) ++ [125]
end Go.Proofs.YtmncdbepjhmkgaaGreatDoor.LS
/- The tokens that are still to come, and where the lexer stands. -/
namespace Go.Proofs.YtmncdbepjhmkgaaGreatDoor.LS
open Go Go.RowKit

theorem lexC_gt (l : List UInt8) (j : Nat) (c : UInt8) (r : List UInt8) (hl : l.drop j = c :: r) : j < (lexC l j c r).2 ∧ (lexC l j c r).2 ≤ l.length := by
  have hlen : l.length = j + (r.length + 1) := by
    have := congrArg List.length hl; simp at this
    have h2 : j ≤ l.length := by
      rcases Nat.lt_or_ge l.length j with h | h
      · rw [List.drop_of_length_le (by omega)] at hl; cases hl
      · exact h
    omega
  unfold lexC
  split
  · rename_i hd
    have h1 := run_le digit (c :: r)
    have h2 : 0 < run digit (c :: r) := by simp [run, hd]
    simp only [List.length_cons] at h1
    exact ⟨by show j < j + _; omega, by show j + _ ≤ _; omega⟩
  · split
    · rename_i hd
      have h1 := run_le letter (c :: r)
      have h2 : 0 < run letter (c :: r) := by simp [run, hd]
      simp only [List.length_cons] at h1
      exact ⟨by show j < j + _; omega, by show j + _ ≤ _; omega⟩
    · split
      · split
        · exact ⟨by show j < l.length; omega, Nat.le_refl _⟩
        · rename_i p hs
          have := seek_lt hs
          exact ⟨by show j < j + p + 2; omega, by show j + p + 2 ≤ _; omega⟩
      · split
        · rename_i hc
          have : 0 < r.length := by
            cases r with
            | nil => simp at hc
            | cons a r => simp
          exact ⟨by show j < j + 2; omega, by show j + 2 ≤ _; omega⟩
        · split <;> exact ⟨by show j < j + 1; omega, by show j + 1 ≤ _; omega⟩
theorem lexAt_gt (l : List UInt8) (i : Nat) (hi : i ≤ l.length) : ((lexAt l i).1.kind ≠ 0 → i < (lexAt l i).2) ∧ (lexAt l i).2 ≤ l.length := by
  unfold lexAt
  have hr := run_le (· == 32) (l.drop i)
  rw [List.length_drop] at hr
  generalize run (· == 32) (l.drop i) = n at *
  unfold lexJ
  cases hd : l.drop (i + n) with
  | nil => exact ⟨fun h => absurd rfl h, by show i + n ≤ _; omega⟩
  | cons c r => have := lexC_gt l (i + n) c r hd; exact ⟨fun _ => by show i < (lexC l (i + n) c r).2; omega, this.2⟩
theorem lexAt_txt (l : List UInt8) (i : Nat) : (lexAt l i).1.txt.length ≤ l.length + 2 := by
  unfold lexAt lexJ
  split
  · simp
  · rename_i c r hd
    have hl : r.length + 1 ≤ l.length := by
      have := congrArg List.length hd
      rw [List.length_drop, List.length_cons] at this
      omega
    unfold lexC
    split
    · split
      · simp only [List.length_take, List.length_cons]; omega
      · simp
    · split
      · split
        · simp
        · simp only [List.length_take, List.length_cons]; omega
      · split
        · split
          · simp
          · split
            · simp only [List.length_take]; omega
            · simp
        · split
          · simp
          · split <;> simp
theorem lexAt_num (l : List UInt8) (i : Nat) : (lexAt l i).1.kind = 1 → (number 1000000000 (lexAt l i).1.txt).isSome = true := by
  unfold lexAt lexJ
  split
  · intro h; cases h
  · rename_i c r hd
    unfold lexC
    split
    · split
      · rename_i h; intro _; exact h
      · intro h; cases h
    · split
      · split
        · intro h; cases h
        · intro h; cases h
      · split
        · split
          · intro h; cases h
          · split
            · intro h; cases h
            · intro h; cases h
        · split
          · intro h; cases h
          · split
            · intro h; cases h
            · intro h; cases h
/-- t was read last, the lexer stands at at_: ts are t and the tokens behind it. -/
def Toks (l : List UInt8) (t : Tok) (at_ : Nat) (ts : List Tok) : Prop := ∃ r, ts = t :: r ∧ ((t.kind = 0 ∨ t.kind = 5) → r = []) ∧ (¬ (t.kind = 0 ∨ t.kind = 5) → ∃ n, l.length + 1 ≤ n + at_ ∧ r = lexAll l n at_) ∧ t.txt.length ≤ l.length + 2 ∧ (t.kind = 1 → (number 1000000000 t.txt).isSome = true)
theorem Toks.hd {l : List UInt8} {t : Tok} {at_ : Nat} {ts : List Tok} (h : Toks l t at_ ts) : LS.hd ts = t := by obtain ⟨r, rfl, _⟩ := h; rfl
theorem Toks.pos {l : List UInt8} {t : Tok} {at_ : Nat} {ts : List Tok} (h : Toks l t at_ ts) : ts.length = ts.tail.length + 1 := by obtain ⟨r, rfl, _⟩ := h; rfl
theorem Toks.next {l : List UInt8} {t : Tok} {at_ : Nat} {ts : List Tok} (h : Toks l t at_ ts) (ht : ¬ (t.kind = 0 ∨ t.kind = 5)) (ha : at_ ≤ l.length) : Toks l (lexAt l at_).1 (lexAt l at_).2 ts.tail := by
  obtain ⟨r, rfl, _, h, _⟩ := h
  obtain ⟨n, hn, rfl⟩ := h ht
  obtain ⟨m, rfl⟩ : ∃ m, n = m + 1 := ⟨n - 1, by omega⟩
  have hg := lexAt_gt l at_ ha
  show Toks _ _ _ (lexAll l (m + 1) at_)
  unfold lexAll
  by_cases hk : (lexAt l at_).1.kind = 0 ∨ (lexAt l at_).1.kind = 5
  · rw [if_pos hk]
    exact ⟨[], rfl, fun _ => rfl, fun h => absurd hk h, lexAt_txt _ _, lexAt_num _ _⟩
  · rw [if_neg hk]
    refine ⟨_, rfl, fun h => absurd h hk, fun _ => ⟨m, ?_, rfl⟩, lexAt_txt _ _, lexAt_num _ _⟩
    have := hg.1 (fun h => hk (Or.inl h)); omega
theorem Toks.start (l : List UInt8) : Toks l (lexAt l 0).1 (lexAt l 0).2 (lexAll l (l.length + 1) 0) := by
  have hg := lexAt_gt l 0 (Nat.zero_le _)
  show Toks _ _ _ (lexAll l (l.length + 1) 0)
  unfold lexAll
  by_cases hk : (lexAt l 0).1.kind = 0 ∨ (lexAt l 0).1.kind = 5
  · rw [if_pos hk]
    exact ⟨[], rfl, fun _ => rfl, fun h => absurd hk h, lexAt_txt _ _, lexAt_num _ _⟩
  · rw [if_neg hk]
    refine ⟨_, rfl, fun h => absurd h hk, fun _ => ⟨l.length, ?_, rfl⟩, lexAt_txt _ _, lexAt_num _ _⟩
    have := hg.1 (fun h => hk (Or.inl h)); omega
theorem lexAll_le (l : List UInt8) (n i : Nat) : (lexAll l n i).length ≤ n := by
  induction n generalizing i with
  | zero => exact Nat.le_refl _
  | succ n ih =>
    unfold lexAll
    split
    · simp
    · simp; exact ih _
theorem lexAll_len (l : List UInt8) (n i : Nat) (hi : i ≤ l.length) : (lexAll l n i).length ≤ l.length + 1 - i := by
  induction n generalizing i with
  | zero => exact Nat.zero_le _
  | succ n ih =>
    unfold lexAll
    have hg := lexAt_gt l i hi
    split
    · simp; omega
    · rename_i hk
      have h1 := hg.1 (fun h => hk (Or.inl h))
      have h2 := ih (lexAt l i).2 hg.2
      simp; omega
theorem Toks.len {l : List UInt8} {t : Tok} {at_ : Nat} {ts : List Tok} (h : Toks l t at_ ts) (ha : at_ ≤ l.length) : ts.length ≤ l.length + 2 := by
  obtain ⟨r, rfl, h1, h2, _⟩ := h
  by_cases hk : t.kind = 0 ∨ t.kind = 5
  · rw [h1 hk]; simp
  · obtain ⟨n, _, rfl⟩ := h2 hk
    have := lexAll_len l n at_ ha
    simp; omega
theorem Toks.txt_le {l : List UInt8} {t : Tok} {at_ : Nat} {ts : List Tok} (h : Toks l t at_ ts) : t.txt.length ≤ l.length + 2 := by
  obtain ⟨_, _, _, _, h, _⟩ := h; exact h
theorem Toks.num {l : List UInt8} {t : Tok} {at_ : Nat} {ts : List Tok} (h : Toks l t at_ ts) : t.kind = 1 → (number 1000000000 t.txt).isSome = true := by
  obtain ⟨_, _, _, _, _, h⟩ := h; exact h
theorem isT_live {s : List UInt8} {t : Tok} (h : isT s t = true) : ¬ (t.kind = 0 ∨ t.kind = 5) := by
  unfold isT at h
  simp only [Bool.and_eq_true, Bool.or_eq_true, beq_iff_eq] at h
  omega
end Go.Proofs.YtmncdbepjhmkgaaGreatDoor.LS
/- The document's own reader in memory: its nine cells, and what a store into one of them leaves. -/
namespace Go.Proofs.YtmncdbepjhmkgaaGreatDoor
open Go.RowKit LS

structure QV where
  pv : Value
  s : ByteArray
  at_ : Nat
  k : Nat
  tx : ByteArray
  ta : Nat
  deep : Nat
  e : Nat
  pl : Nat
def QV.cells (q : QV) : Array Value := #[q.pv, .string q.s, .int .i64 q.at_, .int .i64 q.k, .string q.tx, .int .i64 q.ta, .int .i64 q.deep, .int .i64 q.e, .int .i64 q.pl]
/-- the reader lies in block b. -/
def QAt (w : World) (b : Nat) (q : QV) : Prop := w.heap[b]? = some (.cells q.cells 74 (0, 0))
theorem QAt.lt {w : World} {b : Nat} {q : QV} (h : QAt w b q) : b < w.heap.size := (Array.getElem?_eq_some_iff.1 h).1
theorem QAt.frozen {w : World} {b : Nat} {q : QV} (h : QAt w b q) (o : Nat) : w.frozen? ⟨b, o, none⟩ = false := by
  unfold QAt at h; simp [World.frozen?, h]
theorem QAt.cell {w : World} {b : Nat} {q : QV} (h : QAt w b q) (o : Nat) (v : Value) (hv : q.cells[o]? = some v) : w.cell? ⟨b, o, none⟩ = some v := by
  unfold QAt at h; simp only [World.cell?, h]; simpa using hv
theorem QAt.all {w : World} {b : Nat} {q : QV} (h : QAt w b q) :
    w.cell? ⟨b, 0, none⟩ = some q.pv ∧ w.cell? ⟨b, 1, none⟩ = some (.string q.s) ∧ w.cell? ⟨b, 2, none⟩ = some (.int .i64 q.at_) ∧ w.cell? ⟨b, 3, none⟩ = some (.int .i64 q.k) ∧ w.cell? ⟨b, 4, none⟩ = some (.string q.tx) ∧
    w.cell? ⟨b, 5, none⟩ = some (.int .i64 q.ta) ∧ w.cell? ⟨b, 6, none⟩ = some (.int .i64 q.deep) ∧ w.cell? ⟨b, 7, none⟩ = some (.int .i64 q.e) ∧ w.cell? ⟨b, 8, none⟩ = some (.int .i64 q.pl) :=
  ⟨h.cell 0 _ rfl, h.cell 1 _ rfl, h.cell 2 _ rfl, h.cell 3 _ rfl, h.cell 4 _ rfl, h.cell 5 _ rfl, h.cell 6 _ rfl, h.cell 7 _ rfl, h.cell 8 _ rfl⟩
theorem QAt.set {w : World} {b : Nat} {q q' : QV} (h : QAt w b q) (o : Nat) (v : Value) (hq : q.cells.setIfInBounds o v = q'.cells) : QAt (w.setCell ⟨b, o, none⟩ v) b q' := by
  unfold QAt at h ⊢
  simp only [World.setCell, Array.getElem?_modify, h, if_true, Option.map_some]
  rw [← hq]; rfl
theorem QAt.other {w : World} {b : Nat} {q : QV} (h : QAt w b q) {a : Addr} (ha : b ≠ a.block) (v : Value) : QAt (w.setCell a v) b q := (Go.Deep.blk_setCell_other w a v b ha).trans h
theorem QAt.alloc {w : World} {b : Nat} {q : QV} (h : QAt w b q) (o : Obj) : QAt (w.alloc o) b q := (Go.Deep.blk_alloc_lt w o b h.lt).trans h
theorem QAt.below {w w' : World} {b : Nat} {q : QV} (h : QAt w b q) (hb : Below w.heap.size w w') : QAt w' b q := (hb.block b h.lt).trans h
theorem grown_of_below {w w' : World} {r : Option Nat} (h : Below w.heap.size w w') : w.grownBy w' r := ⟨h.os, h.tape, h.output, h.size, fun k hk _ => h.block k hk⟩
theorem grown_refl (w : World) (r : Option Nat) : w.grownBy w r := ⟨rfl, rfl, rfl, Nat.le_refl _, fun _ _ _ => rfl⟩
theorem grown_trans {a b c : World} {r : Option Nat} (h : a.grownBy b r) (h' : b.grownBy c r) : a.grownBy c r :=
  ⟨h'.os.trans h.os, h'.tape.trans h.tape, h'.output.trans h.output, Nat.le_trans h.size h'.size, fun k hk hn => (h'.block k (Nat.lt_of_lt_of_le hk h.size) hn).trans (h.block k hk hn)⟩
theorem grown_set {a w : World} {b : Nat} (h : a.grownBy w (some b)) {p : Addr} (hp : p.block = b ∨ a.heap.size ≤ p.block) (v : Value) : a.grownBy (w.setCell p v) (some b) :=
  ⟨h.os, h.tape, h.output, by rw [Go.Deep.nblk_setCell]; exact h.size, fun k hk hn => (Go.Deep.blk_setCell_other w p v k (by rintro rfl; rcases hp with hp | hp; exact hn (by rw [hp]); omega)).trans (h.block k hk hn)⟩
theorem grown_alloc {a w : World} {r : Option Nat} (h : a.grownBy w r) (o : Obj) : a.grownBy (w.alloc o) r :=
  ⟨h.os, h.tape, h.output, by rw [Go.Deep.nblk_alloc]; have := h.size; omega, fun k hk hn => (Go.Deep.blk_alloc_lt w o k (Nat.lt_of_lt_of_le hk h.size)).trans (h.block k hk hn)⟩
theorem grown_drew {a w : World} {r : Option Nat} (h : a.grownBy w r) : a.grownBy w.drew r := ⟨h.os, h.tape, h.output, h.size, h.block⟩
theorem grown_below {a b c : World} {r : Option Nat} (h : a.grownBy b r) (h' : Below b.heap.size b c) : a.grownBy c r := grown_trans h (grown_of_below h')


theorem box3_of {w W w1 : World} {x y z : Value} {t : TypeId} (hb : Below W.heap.size W w1) (hW : W.heap = (w.alloc (.cells #[x, y, z] t)).heap) :
    w1.cell? ⟨w.heap.size, 0, none⟩ = some x ∧ w1.cell? ⟨w.heap.size, 1, none⟩ = some y ∧ w1.cell? ⟨w.heap.size, 2, none⟩ = some z ∧
    w1.frozen? ⟨w.heap.size, 0, none⟩ = false ∧ w1.frozen? ⟨w.heap.size, 1, none⟩ = false ∧ w1.frozen? ⟨w.heap.size, 2, none⟩ = false := by
  have hz : W.heap.size = w.heap.size + 1 := by rw [hW]; exact Go.Deep.nblk_alloc _ _
  have h : w1.heap[w.heap.size]? = some (.cells #[x, y, z] t) := by
    rw [hb.block _ (by omega), hW]; exact Go.Deep.blk_alloc_new _ _
  refine ⟨?_, ?_, ?_, ?_, ?_, ?_⟩ <;> simp [World.cell?, World.frozen?, h]
theorem below_of_heap {w W w1 : World} {o : Obj} (hW : W.heap = (w.alloc o).heap) (ho : W.os = w.os) (ht : W.tape = w.tape) (hu : W.output = w.output) (hb : Below W.heap.size W w1) : Below w.heap.size w w1 ∧ w.heap.size < w1.heap.size := by
  have hz : W.heap.size = w.heap.size + 1 := by rw [hW]; exact Go.Deep.nblk_alloc _ _
  have := hb.size
  exact ⟨⟨hb.os.trans ho, hb.tape.trans ht, hb.output.trans hu, by omega, fun k hk => (hb.block k (by omega)).trans (by rw [hW]; exact Go.Deep.blk_alloc_lt _ _ _ hk)⟩, by omega⟩
theorem cell_set_ne {W : World} {x o p : Nat} {a : Value} {r : Option Value} (h : W.cell? ⟨x, o, none⟩ = r) (hop : p ≠ o) : (W.setCell ⟨x, p, none⟩ a).cell? ⟨x, o, none⟩ = r :=
  (World.cell?_setCell_other _ _ _ _ (by intro e; injection e with _ e2; exact hop e2)).trans h
theorem set3_cells {W : World} {x : Nat} {u v y a b c : Value} (k0 : W.cell? ⟨x, 0, none⟩ = some u) (k1 : W.cell? ⟨x, 1, none⟩ = some v) (k2 : W.cell? ⟨x, 2, none⟩ = some y) :
    (((W.setCell ⟨x, 0, none⟩ a).setCell ⟨x, 1, none⟩ b).setCell ⟨x, 2, none⟩ c).cell? ⟨x, 0, none⟩ = some a ∧ (((W.setCell ⟨x, 0, none⟩ a).setCell ⟨x, 1, none⟩ b).setCell ⟨x, 2, none⟩ c).cell? ⟨x, 1, none⟩ = some b ∧
    (((W.setCell ⟨x, 0, none⟩ a).setCell ⟨x, 1, none⟩ b).setCell ⟨x, 2, none⟩ c).cell? ⟨x, 2, none⟩ = some c :=
  ⟨cell_set_ne (cell_set_ne (World.cell?_setCell_same _ _ _ k0) (by decide)) (by decide), cell_set_ne (World.cell?_setCell_same _ _ _ (cell_set_ne k1 (by decide))) (by decide), World.cell?_setCell_same _ _ _ (cell_set_ne (cell_set_ne k2 (by decide)) (by decide))⟩

set_option maxHeartbeats 1000000 in
theorem qfail_ok (w : World) (b : Nat) (q : QV) (e : Nat) (h : QAt w b q) (he : q.e = 0) :
    Calls Tryz.prog 26 #[.pointer (some ⟨b, 0, none⟩), .int .i64 e] w fun r w' => r = .returned (.tuple #[]) ∧ QAt w' b { q with e := e, pl := q.ta } ∧ w.grownBy w' (some b) := by
  obtain ⟨c0, c1, c2, c3, c4, c5, c6, c7, c8⟩ := h.all
  have f7 := h.frozen 7
  have f8 := h.frozen 8
  have hb : ((q.e : Int) == 0) = true := by rw [he]; rfl
  have HQ : Hid (QAt w b q) := h
  clear h he
  go_enter Tryz.func26, Tryz.ntmps26
  go_wp2
  go_end0
  exact ⟨rfl, QAt.set (QAt.set (q' := { q with e := e }) HQ.out 7 _ rfl) 8 _ rfl, (by repeat (first | exact grown_refl _ _ | assumption | refine grown_set ?_ (by first | exact Or.inl rfl | (right; omega) | (right; simp; omega)) _ | refine grown_alloc ?_ _ | refine grown_drew ?_))⟩
set_option maxHeartbeats 1000000 in
theorem qfail_err (w : World) (b : Nat) (q : QV) (e : Int) (h : QAt w b q) (he : q.e ≠ 0) :
    Calls Tryz.prog 26 #[.pointer (some ⟨b, 0, none⟩), .int .i64 e] w fun r w' => r = .returned (.tuple #[]) ∧ w' = w := by
  obtain ⟨c0, c1, c2, c3, c4, c5, c6, c7, c8⟩ := h.all
  have hb : ((q.e : Int) == 0) = false := by rw [beq_eq_false_iff_ne]; omega
  have HQ : Hid (QAt w b q) := h
  clear h he
  go_enter Tryz.func26, Tryz.ntmps26
  go_wp2
  go_end0
  exact ⟨rfl, rfl⟩
set_option maxHeartbeats 1000000 in
theorem qis_err (w : World) (b : Nat) (q : QV) (s : ByteArray) (h : QAt w b q) (he : q.e ≠ 0) :
    Calls Tryz.prog 61 #[.pointer (some ⟨b, 0, none⟩), .string s] w fun r w' => r = .returned (.bool false) ∧ w' = w := by
  obtain ⟨c0, c1, c2, c3, c4, c5, c6, c7, c8⟩ := h.all
  have hb : ((q.e : Int) == 0) = false := by rw [beq_eq_false_iff_ne]; omega
  have HQ : Hid (QAt w b q) := h
  clear h he
  go_enter Tryz.func61, Tryz.ntmps61
  go_wp2
  go_ret
  exact ⟨rfl, rfl⟩
def tokOf (q : QV) : Tok := ⟨q.k, bl q.tx, q.ta⟩
theorem isT_of (s : ByteArray) (q : QV) : isT (bl s) (tokOf q) = ((((q.k : Int) == 2) || ((q.k : Int) == 4)) && (q.tx.toList == s.toList)) := by
  unfold isT tokOf
  rw [toList_bl, toList_bl]
  have e2 : ((q.k : Int) == 2) = (q.k == 2) := by rw [Bool.eq_iff_iff, beq_iff_eq, beq_iff_eq]; omega
  have e4 : ((q.k : Int) == 4) = (q.k == 4) := by rw [Bool.eq_iff_iff, beq_iff_eq, beq_iff_eq]; omega
  rw [e2, e4]
set_option maxHeartbeats 1000000 in
theorem qis_ok (w : World) (b : Nat) (q : QV) (s : ByteArray) (h : QAt w b q) (he : q.e = 0) :
    Calls Tryz.prog 61 #[.pointer (some ⟨b, 0, none⟩), .string s] w fun r w' => r = .returned (.bool (isT (bl s) (tokOf q))) ∧ w' = w := by
  obtain ⟨c0, c1, c2, c3, c4, c5, c6, c7, c8⟩ := h.all
  have hb : ((q.e : Int) == 0) = true := by rw [he]; rfl
  have HQ : Hid (QAt w b q) := h
  clear h he
  rw [isT_of]
  generalize hx2 : ((q.k : Int) == 2) = x2
  generalize hx4 : ((q.k : Int) == 4) = x4
  generalize hxs : (q.tx.toList == s.toList) = xs
  go_enter Tryz.func61, Tryz.ntmps61
  cases x2 <;> cases x4 <;> cases xs <;> (go_wp2; go_ret; exact ⟨rfl, rfl⟩)
end Go.Proofs.YtmncdbepjhmkgaaGreatDoor
