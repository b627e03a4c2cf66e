/- Parts of the proof, joined: QState, QCond -/
import Derived.Test.YtmncdbepjhmkgaaGreatDoorJ06
/- The document's reader, with an error or without: each of its small steps, as a step of the plain reading. -/
namespace Go.Proofs.YtmncdbepjhmkgaaGreatDoor
open Go.RowKit LS

def St (w : World) (b : Nat) (pv : Value) (s : ByteArray) (deep : Nat) (r : Out Unit) : Prop := QRes w b pv s deep r (fun _ => True)
def isR (c : List UInt8) (r : Out Unit) : Bool := match r with
  | .error _ => false
  | .ok x => isT c (hd x.2)
theorem St.of_is {w : World} {b : Nat} {pv : Value} {s : ByteArray} {ts : List Tok} {deep : Nat} (h : QIs w b pv s ts deep) : St w b pv s deep (.ok ((), ts)) := ⟨h, trivial⟩
theorem St.kept {w w' : World} {b : Nat} {pv : Value} {s : ByteArray} {deep : Nat} {r : Out Unit} (h : St w b pv s deep r) (hw : w'.heap[b]? = w.heap[b]?) : St w' b pv s deep r := by
  cases r with
  | error x => exact QErr.kept (e := x.1) (p := x.2) h hw
  | ok x => exact ⟨QIs.kept h.1 hw, trivial⟩
theorem St.lt {w : World} {b : Nat} {pv : Value} {s : ByteArray} {deep : Nat} {r : Out Unit} (h : St w b pv s deep r) : b < w.heap.size := by
  cases r with
  | error x => exact QErr.lt (e := x.1) (p := x.2) h
  | ok x => exact QIs.lt h.1
theorem St.len {w : World} {b : Nat} {pv : Value} {s : ByteArray} {deep : Nat} {x : Unit × List Tok} (h : St w b pv s deep (.ok x)) : x.2.length ≤ s.size + 2 := by
  obtain ⟨⟨q, _, _, _, _, _, h6, h7⟩, _⟩ := h
  have := h7.len (by rw [bl_length]; exact h6)
  rwa [bl_length] at this
theorem St.view {w : World} {b : Nat} {pv : Value} {s : ByteArray} {deep : Nat} {r : Out Unit} (h : St w b pv s deep r) :
    ∃ q : QV, QAt w b q ∧ q.pv = pv ∧ q.deep = deep ∧ (∀ x, r = .error x → q.e = x.1 ∧ q.e ≠ 0 ∧ q.pl = x.2) ∧ (∀ x, r = .ok x → q.e = 0 ∧ tokOf q = hd x.2) := by
  cases r with
  | error x =>
    obtain ⟨q, h1, h2, h3, h4, h5, h6⟩ := h
    refine ⟨q, h1, h2, h3, ?_, ?_⟩
    · intro y hy; injection hy with hy; subst hy; exact ⟨h4, by rw [h4]; exact h5, h6⟩
    · intro y hy; cases hy
  | ok x =>
    obtain ⟨⟨q, h1, h2, h3, h4, h5, h6, h7⟩, _⟩ := h
    refine ⟨q, h1, h2, h4, ?_, ?_⟩
    · intro y hy; cases hy
    · intro y hy; injection hy with hy; subst hy; exact ⟨h5, h7.hd.symm⟩
theorem St.is {w : World} {b : Nat} {pv : Value} {s : ByteArray} {deep : Nat} {r : Out Unit} (h : St w b pv s deep r) (c : ByteArray) :
    Calls Tryz.prog 61 #[.pointer (some ⟨b, 0, none⟩), .string c] w fun e w' => e = .returned (.bool (isR (bl c) r)) ∧ w' = w := by
  cases r with
  | error x => exact QErr.is (e := x.1) (p := x.2) h c
  | ok x => exact QIs.is h.1 c
theorem St.take {w : World} {b : Nat} {pv : Value} {s : ByteArray} {deep : Nat} {r : Out Unit} (h : St w b pv s deep r) (hs : s.size ≤ 6000) (c : ByteArray) :
    Calls Tryz.prog 116 #[.pointer (some ⟨b, 0, none⟩), .string c] w fun e w' => e = .returned (.tuple #[]) ∧ St w' b pv s deep (bnd r fun _ ts => takeP (bl c) ts) ∧ w.grownBy w' (some b) := by
  cases r with
  | error x =>
    refine (QErr.take (e := x.1) (p := x.2) h c).mono ?_
    rintro e w' ⟨rfl, rfl⟩
    exact ⟨rfl, h, grown_refl _ _⟩
  | ok x => exact QIs.take h.1 hs c
theorem St.fail {w : World} {b : Nat} {pv : Value} {s : ByteArray} {deep : Nat} {r : Out Unit} (h : St w b pv s deep r) (c : Nat) (ci : Int) (hci : ci = c) (hc : c ≠ 0) :
    Calls Tryz.prog 26 #[.pointer (some ⟨b, 0, none⟩), .int .i64 ci] w fun e w' => e = .returned (.tuple #[]) ∧ St w' b pv s deep (bnd r fun _ ts => .error (c, (hd ts).at_)) ∧ w.grownBy w' (some b) := by
  cases r with
  | error x =>
    refine (QErr.fail (e := x.1) (p := x.2) h ci).mono ?_
    rintro e w' ⟨rfl, rfl⟩
    exact ⟨rfl, h, grown_refl _ _⟩
  | ok x => exact QIs.fail h.1 c ci hci hc
def unitP {α : Type} (r : Out α) : Out Unit := bnd r fun _ ts => .ok ((), ts)
theorem St.kind {w : World} {b : Nat} {pv : Value} {s : ByteArray} {deep : Nat} {r : Out Unit} (h : St w b pv s deep r) (hs : s.size ≤ 6000) (k : Nat) (ki : Int) (hki : ki = k) (hk : ¬ (k = 0 ∨ k = 5)) :
    Calls Tryz.prog 118 #[.pointer (some ⟨b, 0, none⟩), .int .i64 ki] w fun e w' => ∃ x : ByteArray, e = .returned (.string x) ∧ St w' b pv s deep (bnd r fun _ ts => unitP (kindP k ts)) ∧
      Hid (∀ y, r = .ok y → ∀ z, kindP k y.2 = .ok z → bl x = z.1) ∧ w.grownBy w' (some b) := by
  cases r with
  | error x =>
    refine (QErr.kind (e := x.1) (p := x.2) h ki).mono ?_
    rintro e w' ⟨rfl, rfl⟩
    exact ⟨⟨#[]⟩, rfl, h, hid (fun y hy => nomatch hy), grown_refl _ _⟩
  | ok x =>
    refine (QIs.kind h.1 hs k ki hki hk).mono ?_
    rintro e w' ⟨tx, rfl, hq, hg⟩
    refine ⟨tx, rfl, ?_, ?_, hg⟩
    · show St w' b pv s deep (unitP (kindP k x.2))
      cases hkp : kindP k x.2 with
      | error z => rw [hkp] at hq; exact hq
      | ok z => rw [hkp] at hq; exact ⟨hq.1, trivial⟩
    · rintro y hy z hz
      injection hy with hy; subst hy
      rw [hz] at hq; exact hq.2
theorem St.next {w : World} {b : Nat} {pv : Value} {s : ByteArray} {deep : Nat} {r : Out Unit} (h : St w b pv s deep r) (hs : s.size ≤ 6000) (hl : ∃ ts, r = .ok ((), ts) ∧ ¬ ((hd ts).kind = 0 ∨ (hd ts).kind = 5)) :
    Calls Tryz.prog 24 #[.pointer (some ⟨b, 0, none⟩)] w fun e w' => e = .returned (.tuple #[]) ∧ St w' b pv s deep (bnd r fun _ ts => .ok ((), ts.tail)) ∧ w.grownBy w' (some b) := by
  obtain ⟨ts, rfl, hl⟩ := hl
  refine (QIs.next h.1 hs hl).mono ?_
  rintro e w' ⟨rfl, hq, hg⟩
  exact ⟨rfl, ⟨hq, trivial⟩, hg⟩
theorem isR_live {c : List UInt8} {r : Out Unit} (h : isR c r = true) : ∃ ts, r = .ok ((), ts) ∧ isT c (hd ts) = true ∧ ¬ ((hd ts).kind = 0 ∨ (hd ts).kind = 5) := by
  cases r with
  | error x => cases h
  | ok x => exact ⟨x.2, rfl, h, isT_live h⟩

/-- A part that is not laid down yet, in a block of its own. -/
def PAt (w : World) (a : Nat) (p : PV) : Prop := w.heap[a]? = some (.cells #[.int .i64 p.k, .int .i64 p.n, .int .i64 p.op, .string p.nm, .slice p.ca p.cn p.cc, .slice p.ba p.bn p.bc, .int .i64 p.a, .int .i64 p.b] 80 (0, 0))
theorem PAt.lt {w : World} {a : Nat} {p : PV} (h : PAt w a p) : a < w.heap.size := (Array.getElem?_eq_some_iff.1 h).1
theorem PAt.frozen {w : World} {a : Nat} {p : PV} (h : PAt w a p) (o : Nat) : w.frozen? ⟨a, o, none⟩ = false := by
  unfold PAt at h; simp [World.frozen?, h]
theorem PAt.all {w : World} {a : Nat} {p : PV} (h : PAt w a p) :
    w.cell? ⟨a, 0, none⟩ = some (.int .i64 p.k) ∧ w.cell? ⟨a, 1, none⟩ = some (.int .i64 p.n) ∧ w.cell? ⟨a, 2, none⟩ = some (.int .i64 p.op) ∧ w.cell? ⟨a, 3, none⟩ = some (.string p.nm) ∧
    w.cell? ⟨a, 4, none⟩ = some (.slice p.ca p.cn p.cc) ∧ w.cell? ⟨a, 5, none⟩ = some (.slice p.ba p.bn p.bc) ∧ w.cell? ⟨a, 6, none⟩ = some (.int .i64 p.a) ∧ w.cell? ⟨a, 7, none⟩ = some (.int .i64 p.b) := by
  unfold PAt at h
  refine ⟨?_, ?_, ?_, ?_, ?_, ?_, ?_, ?_⟩ <;> simp [World.cell?, h]
theorem PAt.kept {w w' : World} {a : Nat} {p : PV} (h : PAt w a p) (hw : w'.heap[a]? = w.heap[a]?) : PAt w' a p := hw.trans h
theorem PAt.grown {w w' : World} {a : Nat} {p : PV} {r : Option Nat} (h : PAt w a p) (hg : w.grownBy w' r) (hn : some a ≠ r) : PAt w' a p := (hg.block a h.lt hn).trans h
theorem PAt.setNm {w : World} {a : Nat} {p : PV} (h : PAt w a p) (x : ByteArray) : PAt (w.setCell ⟨a, 3, none⟩ (.string x)) a { p with nm := x } := by
  unfold PAt at h ⊢
  simp only [World.setCell, Array.getElem?_modify, h, if_true, Option.map_some]; rfl
theorem PAt.setConds {w : World} {a : Nat} {p : PV} (h : PAt w a p) (x : Option Addr) (n c : Nat) : PAt (w.setCell ⟨a, 4, none⟩ (.slice x n c)) a { p with ca := x, cn := n, cc := c } := by
  unfold PAt at h ⊢
  simp only [World.setCell, Array.getElem?_modify, h, if_true, Option.map_some]; rfl
theorem PAt.setBy {w : World} {a : Nat} {p : PV} (h : PAt w a p) (x : Option Addr) (n c : Nat) : PAt (w.setCell ⟨a, 5, none⟩ (.slice x n c)) a { p with ba := x, bn := n, bc := c } := by
  unfold PAt at h ⊢
  simp only [World.setCell, Array.getElem?_modify, h, if_true, Option.map_some]; rfl
theorem PAt.setA {w : World} {a : Nat} {p : PV} (h : PAt w a p) (x : Int) : PAt (w.setCell ⟨a, 6, none⟩ (.int .i64 x)) a { p with a := x } := by
  unfold PAt at h ⊢
  simp only [World.setCell, Array.getElem?_modify, h, if_true, Option.map_some]; rfl
def copy8 (w : World) (a : Nat) (p : PV) : World := (((((((w.setCell ⟨a, 0, none⟩ (.int .i64 p.k)).setCell ⟨a, 1, none⟩ (.int .i64 p.n)).setCell ⟨a, 2, none⟩ (.int .i64 p.op)).setCell ⟨a, 3, none⟩ (.string p.nm)).setCell ⟨a, 4, none⟩ (.slice p.ca p.cn p.cc)).setCell ⟨a, 5, none⟩ (.slice p.ba p.bn p.bc)).setCell ⟨a, 6, none⟩ (.int .i64 p.a)).setCell ⟨a, 7, none⟩ (.int .i64 p.b)
theorem PAt.setK {w : World} {a : Nat} {p : PV} (h : PAt w a p) (x : Int) : PAt (w.setCell ⟨a, 0, none⟩ (.int .i64 x)) a { p with k := x } := by
  unfold PAt at h ⊢
  simp only [World.setCell, Array.getElem?_modify, h, if_true, Option.map_some]; rfl
theorem PAt.setN {w : World} {a : Nat} {p : PV} (h : PAt w a p) (x : Int) : PAt (w.setCell ⟨a, 1, none⟩ (.int .i64 x)) a { p with n := x } := by
  unfold PAt at h ⊢
  simp only [World.setCell, Array.getElem?_modify, h, if_true, Option.map_some]; rfl
theorem PAt.setOp {w : World} {a : Nat} {p : PV} (h : PAt w a p) (x : Int) : PAt (w.setCell ⟨a, 2, none⟩ (.int .i64 x)) a { p with op := x } := by
  unfold PAt at h ⊢
  simp only [World.setCell, Array.getElem?_modify, h, if_true, Option.map_some]; rfl
theorem PAt.setB {w : World} {a : Nat} {p : PV} (h : PAt w a p) (x : Int) : PAt (w.setCell ⟨a, 7, none⟩ (.int .i64 x)) a { p with b := x } := by
  unfold PAt at h ⊢
  simp only [World.setCell, Array.getElem?_modify, h, if_true, Option.map_some]; rfl
theorem copy8_at {w : World} {a : Nat} {p0 : PV} (h : PAt w a p0) (p : PV) : PAt (copy8 w a p) a p :=
  PAt.setB (PAt.setA (PAt.setBy (PAt.setConds (PAt.setNm (PAt.setOp (PAt.setN (PAt.setK h p.k) p.n) p.op) p.nm) p.ca p.cn p.cc) p.ba p.bn p.bc) p.a) p.b
theorem copy8_other (w : World) (a : Nat) (p : PV) (k : Nat) (hk : k ≠ a) : (copy8 w a p).heap[k]? = w.heap[k]? := by
  unfold copy8
  rw [Go.Deep.blk_setCell_other _ _ _ _ (show k ≠ a from hk), Go.Deep.blk_setCell_other _ _ _ _ (show k ≠ a from hk), Go.Deep.blk_setCell_other _ _ _ _ (show k ≠ a from hk), Go.Deep.blk_setCell_other _ _ _ _ (show k ≠ a from hk), Go.Deep.blk_setCell_other _ _ _ _ (show k ≠ a from hk), Go.Deep.blk_setCell_other _ _ _ _ (show k ≠ a from hk), Go.Deep.blk_setCell_other _ _ _ _ (show k ≠ a from hk), Go.Deep.blk_setCell_other _ _ _ _ (show k ≠ a from hk)]
theorem copy8_grown {w0 w : World} {b a : Nat} (h : w0.grownBy w (some b)) (ha : w0.heap.size ≤ a) (p : PV) : w0.grownBy (copy8 w a p) (some b) := by
  unfold copy8
  exact grown_set (grown_set (grown_set (grown_set (grown_set (grown_set (grown_set (grown_set h (Or.inr ha) _) (Or.inr ha) _) (Or.inr ha) _) (Or.inr ha) _) (Or.inr ha) _) (Or.inr ha) _) (Or.inr ha) _) (Or.inr ha) _
end Go.Proofs.YtmncdbepjhmkgaaGreatDoor
/- The conditions of a selector, one round after the other: plain lists of tokens. -/
namespace Go.Proofs.YtmncdbepjhmkgaaGreatDoor
open Go.RowKit LS

def flatC : List (ByteArray × ByteArray × Bool) → List Value
  | [] => []
  | (a, b, c) :: l => .string a :: .string b :: .bool c :: flatC l
def blC (c : ByteArray × ByteArray × Bool) : List UInt8 × List UInt8 × Bool := (bl c.1, bl c.2.1, c.2.2)
theorem flatC_append (l m : List (ByteArray × ByteArray × Bool)) : flatC (l ++ m) = flatC l ++ flatC m := by
  induction l with
  | nil => rfl
  | cons a l ih => obtain ⟨x, y, z⟩ := a; simp [flatC, ih]
theorem kindP_len {k : Nat} {ts : List Tok} {z : List UInt8 × List Tok} (hk : k ≠ 0) (h : kindP k ts = .ok z) : z.2.length + 1 = ts.length ∧ z.1 = (hd ts).txt ∧ z.2 = ts.tail := by
  unfold kindP at h
  split at h
  · rename_i e
    injection h with h; subst h
    cases ts with
    | nil => exact absurd e.symm hk
    | cons t r => exact ⟨rfl, rfl, rfl⟩
  · cases h
theorem takeP_len {c : List UInt8} {ts : List Tok} {z : Unit × List Tok} (h : takeP c ts = .ok z) : z.2.length + 1 = ts.length := by
  unfold takeP at h
  split at h
  · rename_i e
    injection h with h; subst h
    cases ts with
    | nil => exact absurd (Or.inl rfl) (isT_live e)
    | cons t r => rfl
  · cases h
theorem isT_len {c : List UInt8} {ts : List Tok} (e : isT c (hd ts) = true) : ts.tail.length + 1 = ts.length := by
  cases ts with
  | nil => exact absurd (Or.inl rfl) (isT_live e)
  | cons t r => rfl
def LoopRel {α β : Type} (item : List Tok → Out α) (close : List UInt8) (f : β → α) (N : Nat) (ts0 : List Tok) (qs : List β) (rr : Out Unit) : Prop :=
  (∀ e, rr = .error e → listP item close N [] ts0 = .error e) ∧ (∀ ts, rr = .ok ((), ts) → ∃ m, listP item close N [] ts0 = listP item close m (qs.map f) ts ∧ ts.length + 1 ≤ m ∧ qs.length + ts.length ≤ ts0.length) ∧ qs.length ≤ ts0.length + 1
theorem LoopRel.start {α β : Type} (item : List Tok → Out α) (close : List UInt8) (f : β → α) (N : Nat) (ts0 : List Tok) (hN : ts0.length + 1 ≤ N) : LoopRel item close f N ts0 [] (.ok ((), ts0)) :=
  ⟨fun e h => (nomatch h), fun ts h => by injection h with h; injection h with _ h; subst h; exact ⟨N, rfl, hN, by simp⟩, by simp⟩
/-- one round. -/
theorem LoopRel.round {α β : Type} {item : List Tok → Out α} {close : List UInt8} {f : β → α} {N : Nat} {ts0 ts : List Tok} {qs : List β} {x : β} {r1 r4 : Out Unit} (h : LoopRel item close f N ts0 qs (.ok ((), ts))) (hc : isT close (hd ts) = false)
    (h1 : (if qs.isEmpty then .ok ((), ts) else takeP [44] ts) = r1) (h4 : r4 = bnd r1 fun _ t => unitP (item t)) (hx : ∀ t z, r1 = .ok ((), t) → item t = .ok z → f x = z.1) (hl : ∀ t z, item t = .ok z → z.2.length + 1 ≤ t.length) : LoopRel item close f N ts0 (qs ++ [x]) r4 := by
  obtain ⟨m, hL, hm, hq⟩ := h.2.1 ts rfl
  obtain ⟨k, rfl⟩ : ∃ k, m = k + 1 := ⟨m - 1, by omega⟩
  have hstep : listP item close N [] ts0 = bnd r1 fun _ r => bnd (item r) fun a r => listP item close k (qs.map f ++ [a]) r := by
    rw [hL]
    show (if isT close (hd ts) then _ else _) = _
    rw [hc, ← h1]
    have : (qs.map f).isEmpty = qs.isEmpty := by cases qs <;> rfl
    rw [this]; rfl
  have hr1 : ∀ t, r1 = .ok ((), t) → t.length ≤ ts.length := by
    intro t ht
    rw [ht] at h1
    split at h1
    · injection h1 with h1; injection h1 with _ h1; subst h1; exact Nat.le_refl _
    · have := takeP_len h1; simp at this; omega
  subst h4
  refine ⟨?_, ?_, ?_⟩
  · intro e he
    cases hr : r1 with
    | error y => rw [hr] at he hstep; injection he with he; rw [hstep, he]; rfl
    | ok y =>
      obtain ⟨⟨⟩, t⟩ := y
      rw [hr] at he hstep
      cases hi : item t with
      | error y => rw [hstep]; simp only [bnd, unitP, hi] at he ⊢; injection he with he; rw [he]
      | ok y => simp [bnd, unitP, hi] at he
  · intro t4 he
    cases hr : r1 with
    | error y => rw [hr] at he; simp [bnd] at he
    | ok y =>
      obtain ⟨⟨⟩, t⟩ := y
      have h5 := hr1 t hr
      have hx2 := fun z => hx t z hr
      rw [hr] at he hstep
      cases hi : item t with
      | error y => simp [bnd, unitP, hi] at he
      | ok y =>
        have h6 := hx2 y hi
        have h7 := hl t y hi
        simp only [bnd, unitP, hi] at he hstep
        injection he with he; injection he with _ he; subst he
        exact ⟨k, by rw [hstep, List.map_append, ← h6]; rfl, by omega, by simp; omega⟩
  · simp; omega
/-- at the end. -/
theorem LoopRel.done {α β : Type} {item : List Tok → Out α} {close : List UInt8} {f : β → α} {N : Nat} {ts0 : List Tok} {qs : List β} {rr : Out Unit} (h : LoopRel item close f N ts0 qs rr) (hd : isR close rr = true ∨ ∃ e, rr = .error e) :
    unitP (listP item close N [] ts0) = (bnd rr fun _ ts => takeP close ts) ∧ ∀ z, listP item close N [] ts0 = .ok z → qs.map f = z.1 := by
  cases rr with
  | error e => rw [h.1 e rfl]; exact ⟨rfl, fun z hz => nomatch hz⟩
  | ok y =>
    obtain ⟨⟨⟩, ts⟩ := y
    rcases hd with hd | ⟨e, hd⟩
    · obtain ⟨m, hL, hm, hq⟩ := h.2.1 ts rfl
      obtain ⟨k, rfl⟩ : ∃ k, m = k + 1 := ⟨m - 1, by omega⟩
      have hd2 : isT close (LS.hd ts) = true := hd
      have e1 : listP item close (k + 1) (qs.map f) ts = .ok (qs.map f, ts.tail) := by
        show (if isT close (LS.hd ts) then _ else _) = _
        rw [hd2]; rfl
      rw [hL, e1]
      refine ⟨?_, fun z hz => by injection hz with hz; subst hz; rfl⟩
      show _ = takeP close ts
      unfold takeP; rw [hd2]; rfl
    · cases hd
theorem condP_len (t : List Tok) (z : (List UInt8 × List UInt8 × Bool) × List Tok) (h : condP t = .ok z) : z.2.length + 1 ≤ t.length := by
  unfold condP at h
  cases h1 : kindP 2 t with
  | error e => rw [h1] at h; cases h
  | ok y =>
    have l1 := (kindP_len (by decide) h1).1
    rw [h1] at h
    simp only [bnd] at h
    cases h2 : signP y.2 with
    | error e => rw [h2] at h; cases h
    | ok u =>
      have l2 : u.2.length ≤ y.2.length := by
        unfold signP at h2
        split at h2
        · injection h2 with h2; subst h2; simp
        · cases h3 : takeP [61] y.2 with
          | error e => rw [h3] at h2; cases h2
          | ok q => rw [h3] at h2; injection h2 with h2; subst h2; have := takeP_len h3; show q.2.length ≤ _; omega
      rw [h2] at h
      simp only at h
      cases h3 : kindP 3 u.2 with
      | error e => rw [h3] at h; cases h
      | ok q =>
        have l3 := (kindP_len (by decide) h3).1
        rw [h3] at h
        injection h with h; subst h
        show q.2.length + 1 ≤ _
        omega
/-- one condition, step by step. -/
theorem cond_steps {r1 : Out Unit} {x1 x2 : ByteArray} {v : Bool} (hv : isR [33, 61] (bnd r1 fun _ t => unitP (kindP 2 t)) = v) {r3 : Out Unit}
    (h3 : r3 = if v then (bnd (bnd r1 fun _ t => unitP (kindP 2 t)) fun _ ts => .ok ((), ts.tail)) else bnd (bnd r1 fun _ t => unitP (kindP 2 t)) fun _ ts => takeP [61] ts)
    (hx1 : ∀ y, r1 = .ok y → ∀ z, kindP 2 y.2 = .ok z → bl x1 = z.1) (hx2 : ∀ y, r3 = .ok y → ∀ z, kindP 3 y.2 = .ok z → bl x2 = z.1) :
    (bnd r3 fun _ t => unitP (kindP 3 t)) = (bnd r1 fun _ t => unitP (condP t)) ∧ ∀ t z, r1 = .ok ((), t) → condP t = .ok z → blC (x1, x2, v) = z.1 := by
  cases r1 with
  | error e =>
    have : v = false := hv.symm
    subst this; subst h3
    exact ⟨rfl, fun t z h => nomatch h⟩
  | ok y =>
    obtain ⟨⟨⟩, t⟩ := y
    cases h1 : kindP 2 t with
    | error e =>
      simp only [bnd, unitP, h1] at hv h3
      have : v = false := hv.symm
      subst this; subst h3
      refine ⟨by simp [bnd, unitP, condP, h1], fun t2 z h hz => ?_⟩
      injection h with h; injection h with _ h; subst h
      simp [condP, h1, bnd] at hz
    | ok y =>
      have hx1' := hx1 _ rfl _ h1
      simp only [bnd, unitP, h1] at hv h3
      have hv2 : isT [33, 61] (hd y.2) = v := hv
      have hs : signP y.2 = bnd r3 fun _ t => .ok (v, t) := by
        unfold signP
        rw [hv2, h3]
        cases v
        · rfl
        · rfl
      have hc : condP t = bnd r3 fun _ r => bnd (kindP 3 r) fun b r => .ok ((y.1, b, v), r) := by
        unfold condP
        rw [h1]
        show (bnd (signP y.2) fun n r => bnd (kindP 3 r) fun b r => .ok ((y.1, b, n), r)) = _
        rw [hs]
        cases r3 with
        | error e => rfl
        | ok u => rfl
      refine ⟨?_, fun t2 z h hz => ?_⟩
      · show _ = unitP (condP t)
        rw [hc]
        cases r3 with
        | error e => rfl
        | ok u =>
          show unitP (kindP 3 u.2) = unitP (bnd (kindP 3 u.2) fun b r => .ok ((y.1, b, v), r))
          cases kindP 3 u.2 with
          | error e => rfl
          | ok q => rfl
      · injection h with h; injection h with _ h; subst h
        rw [hc] at hz
        cases hr3 : r3 with
        | error e => rw [hr3] at hz; cases hz
        | ok u =>
          rw [hr3] at hz
          have hz2 : (bnd (kindP 3 u.2) fun b r => (.ok ((y.1, b, v), r) : Out (List UInt8 × List UInt8 × Bool))) = .ok z := hz
          cases h4 : kindP 3 u.2 with
          | error e => rw [h4] at hz2; cases hz2
          | ok q =>
            have hx2' := hx2 u hr3 _ h4
            rw [h4] at hz2
            injection hz2 with hz2; subst hz2
            show (bl x1, bl x2, v) = (y.1, q.1, v)
            rw [hx1', hx2']
end Go.Proofs.YtmncdbepjhmkgaaGreatDoor
