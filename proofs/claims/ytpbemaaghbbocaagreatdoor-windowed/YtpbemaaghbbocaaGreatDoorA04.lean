/- Parts. -/
import Derived.Test.YtpbemaaghbbocaaGreatDoorA03
import Derived.Deep.RegionLaw
namespace Go.Proofs.YtpbemaaghbbocaaGreatDoor
open Go.RowKit LS
theorem append_where {P : Program} {w : World} {t ty : TypeId} (base : Nat) (e : TypeId) (i : TypeInfo) (z : Value) (size bytes : Nat) (h1 : P.underlying t = some (.slice e)) (h2 : P.info? e = some i) (h3 : i.zero = some z) (h4 : i.size = size) (h5 : i.bytes = bytes) (h6 : z.cells.size = size) (h7 : 0 < size)
    (v : Value) (n : Nat) (xs : List Value) (hown : w.ownsRow base e size v n xs)
    (ad : Addr) (m c : Nat) (news : List Value) (hn : news.length = m * size) (hc : ∀ j u, news[j]? = some u → w.cell? (ad.add j) = some u) (h1c : ∀ u ∈ news, u.oneCell' = true)
    (b1 : n + m ≤ maxLen) (b2 : (n + m) * bytes ≤ 140737488355328) {v' : Value} {w' : World} (hrun : (Builtin.append_ #[t, t] ty #[v, .slice (some ad) m c]).run P w = .ok v' w') :
    v'.ownBlock = v.ownBlock ∨ ∀ k, v'.ownBlock = some k → w.heap.size ≤ k := by
  have hcells := fun g hg => @World.ownsRow.cells w base e size v n xs hown g hg
  have hlen := hown.1
  rcases hown.2 with ⟨rfl, rfl⟩ | ⟨g, cap, cur, rfl, hb, hh, hnc, hcm, hcs, htk⟩
  · right
    obtain rfl : xs = [] := List.eq_nil_of_length_eq_zero (by simpa using hlen)
    obtain ⟨v2, w2, hrun2, r1, _⟩ := run_append_own (P := P) w w.heap.size t ty e i z size bytes h1 h2 h3 h4 h5 h6 h7 (.slice none 0 0) 0 [] (World.ownsRow_nil w _ e size) ad m c news hn hc h1c b1 b2 (Nat.le_refl _)
    rw [hrun] at hrun2
    injection hrun2 with e1 e2
    subst e1
    exact fun k hk => (r1.lt k hk).1
  · by_cases hroom : n + m ≤ cap
    · left
      have hfit : n * i.size + news.length ≤ cur.size := by rw [h4, hn, hcs, ← Nat.add_mul]; exact Nat.mul_le_mul_right _ hroom
      have hrun2 := run_append_room (P := P) w t ty e i h1 h2 g n cap cur hh ad m c news (by rw [h4]; exact hn) hc h1c hroom hfit
      rw [hrun] at hrun2
      injection hrun2 with e1 e2
      subst e1
      rfl
    · right
      obtain ⟨v2, w2, hrun2, r1, _⟩ := run_append_arg_grows (P := P) w t ty e i z size bytes h1 h2 h3 h4 h5 h6 h7 ⟨g, 0, none⟩ n cap xs hlen (hcells g rfl) ad m c news hn hc (by omega) b1 b2
      rw [hrun] at hrun2
      injection hrun2 with e1 e2
      subst e1
      exact fun k hk => (r1.lt k hk).1
theorem step_append_own {P : Program} {ops : Array Oper} {o : Oper} {a : Act} {w : World} {K : Act → World → Prop} {Q : Exit → Act → World → Prop} {E : Prop}
    (hg : o.guard = none) (s x : Operand) (t : TypeId) (hop : o.op = Op.call { callee := Callee.builtin Builtin.append, args := #[s, x], argTypes := #[t, t] })
    (base : Nat) (e : TypeId) (i : TypeInfo) (z : Value) (size bytes : Nat) (h1 : P.underlying t = some (.slice e)) (h2 : P.info? e = some i) (h3 : i.zero = some z) (h4 : i.size = size) (h5 : i.bytes = bytes) (h6 : z.cells.size = size) (h7 : 0 < size)
    (v : Value) (n : Nat) (xs : List Value) (hs : a.eval s = v) (hown : w.ownsRow base e size v n xs)
    (ad : Addr) (m c : Nat) (news : List Value) (hx : a.eval x = .slice (some ad) m c) (hn : news.length = m * size) (hc : ∀ j u, news[j]? = some u → w.cell? (ad.add j) = some u) (h1c : ∀ u ∈ news, u.oneCell' = true)
    (b1 : n + m ≤ maxLen) (b2 : (n + m) * bytes ≤ 140737488355328) (hbase : base ≤ w.heap.size)
    (hK : ∀ v' w', w'.ownsRow base e size v' (n + m) (xs ++ news) → w.grownBy w' v.ownBlock → (v'.ownBlock = v.ownBlock ∨ ∀ k, v'.ownBlock = some k → w.heap.size ≤ k) → K (a.put o.dst v') w') :
    if Region.wanted o (yielded ops a.tmps) = true then Oper.wp P o a w K Q else E := by
  have hw : Region.wanted o (yielded ops a.tmps) = true := by simp [Region.wanted, hg]
  rw [if_pos hw]
  obtain ⟨v', w', hrun, r1, r2, _⟩ := run_append_own (P := P) w base t o.type e i z size bytes h1 h2 h3 h4 h5 h6 h7 v n xs hown ad m c news hn hc h1c b1 b2 hbase
  have r3 := append_where base e i z size bytes h1 h2 h3 h4 h5 h6 h7 v n xs hown ad m c news hn hc h1c b1 b2 hrun
  unfold Oper.wp
  simp [execOp, hop, resolve, invoke, builtin, hs, hx, hrun, Result.andThen]
  exact hK v' w' r1 r2 r3
structure Kept (b : Nat) (pv : Value) (w : World) (pv' : Value) (w' : World) : Prop where
  os : w'.os = w.os
  tape : w'.tape = w.tape
  output : w'.output = w.output
  size : w.heap.size ≤ w'.heap.size
  block : ∀ k, k < w.heap.size → k ≠ b → some k ≠ pv.ownBlock → w'.heap[k]? = w.heap[k]?
  own : pv'.ownBlock = pv.ownBlock ∨ ∀ k, pv'.ownBlock = some k → w.heap.size ≤ k
theorem Kept.refl (b : Nat) (pv : Value) (w : World) : Kept b pv w pv w := ⟨rfl, rfl, rfl, Nat.le_refl _, fun _ _ _ _ => rfl, Or.inl rfl⟩
theorem Kept.trans {b : Nat} {p1 p2 p3 : Value} {w1 w2 w3 : World} (h : Kept b p1 w1 p2 w2) (h' : Kept b p2 w2 p3 w3) : Kept b p1 w1 p3 w3 := by
  refine ⟨h'.os.trans h.os, h'.tape.trans h.tape, h'.output.trans h.output, Nat.le_trans h.size h'.size, ?_, ?_⟩
  · intro k hk hb hp
    refine (h'.block k (Nat.lt_of_lt_of_le hk h.size) hb ?_).trans (h.block k hk hb hp)
    rcases h.own with e | e
    · rw [e]; exact hp
    · intro e2; have := e k e2.symm; omega
  · rcases h'.own with e | e
    · rw [e]; exact h.own
    · exact Or.inr fun k hk => Nat.le_trans h.size (e k hk)
theorem Kept.grown {b : Nat} {p1 p2 : Value} {w1 w2 w3 : World} (h : Kept b p1 w1 p2 w2) (h' : w2.grownBy w3 (some b)) : Kept b p1 w1 p2 w3 :=
  h.trans ⟨h'.os, h'.tape, h'.output, h'.size, fun k hk hb _ => h'.block k hk (fun e => hb (Option.some.inj e)), Or.inl rfl⟩
theorem QAt.grownBy {w w' : World} {b : Nat} {q : QV} {r : Option Nat} (h : QAt w b q) (hg : w.grownBy w' r) (hne : some b ≠ r) : QAt w' b q := (hg.block b h.lt hne).trans h
structure PV where
  k : Int
  n : Int
  op : Int
  nm : ByteArray
  ca : Option Addr
  cn : Nat
  cc : Nat
  ba : Option Addr
  bn : Nat
  bc : Nat
  a : Int
  b : Int
def PV.cells (p : PV) : List Value := [.int .i64 p.k, .int .i64 p.n, .int .i64 p.op, .string p.nm, .slice p.ca p.cn p.cc, .slice p.ba p.bn p.bc, .int .i64 p.a, .int .i64 p.b]
end Go.Proofs.YtpbemaaghbbocaaGreatDoor
namespace Go.Proofs.YtpbemaaghbbocaaGreatDoor.LS
open Go Go.RowKit
end Go.Proofs.YtpbemaaghbbocaaGreatDoor.LS
namespace Go.Proofs.YtpbemaaghbbocaaGreatDoor
open Go.RowKit LS
end Go.Proofs.YtpbemaaghbbocaaGreatDoor
namespace Go.Proofs.YtpbemaaghbbocaaGreatDoor
open Go.RowKit LS
def St (w : World) (b : Nat) (pv : Value) (s : ByteArray) (deep : Nat) (r : Out Unit) : Prop := QRes w b pv s deep r (fun _ => True)
def isR (c : List UInt8) (r : Out Unit) : Bool := match r with
  | .error _ => false
  | .ok x => isT c (hd x.2)
theorem St.kept {w w' : World} {b : Nat} {pv : Value} {s : ByteArray} {deep : Nat} {r : Out Unit} (h : St w b pv s deep r) (hw : w'.heap[b]? = w.heap[b]?) : St w' b pv s deep r := by
  cases r with
  | error x => exact QErr.kept (e := x.1) (p := x.2) h hw
  | ok x => exact ⟨QIs.kept h.1 hw, trivial⟩
theorem St.lt {w : World} {b : Nat} {pv : Value} {s : ByteArray} {deep : Nat} {r : Out Unit} (h : St w b pv s deep r) : b < w.heap.size := by
  cases r with
  | error x => exact QErr.lt (e := x.1) (p := x.2) h
  | ok x => exact QIs.lt h.1
theorem St.len {w : World} {b : Nat} {pv : Value} {s : ByteArray} {deep : Nat} {x : Unit × List Tok} (h : St w b pv s deep (.ok x)) : x.2.length ≤ s.size + 2 := by
  obtain ⟨⟨q, _, _, _, _, _, h6, h7⟩, _⟩ := h
  have := h7.len (by rw [bl_length]; exact h6)
  rwa [bl_length] at this
theorem St.view {w : World} {b : Nat} {pv : Value} {s : ByteArray} {deep : Nat} {r : Out Unit} (h : St w b pv s deep r) :
    ∃ q : QV, QAt w b q ∧ q.pv = pv ∧ q.deep = deep ∧ (∀ x, r = .error x → q.e = x.1 ∧ q.e ≠ 0 ∧ q.pl = x.2) ∧ (∀ x, r = .ok x → q.e = 0 ∧ tokOf q = hd x.2) := by
  cases r with
  | error x =>
    obtain ⟨q, h1, h2, h3, h4, h5, h6⟩ := h
    refine ⟨q, h1, h2, h3, ?_, ?_⟩
    · intro y hy; injection hy with hy; subst hy; exact ⟨h4, by rw [h4]; exact h5, h6⟩
    · intro y hy; cases hy
  | ok x =>
    obtain ⟨⟨q, h1, h2, h3, h4, h5, h6, h7⟩, _⟩ := h
    refine ⟨q, h1, h2, h4, ?_, ?_⟩
    · intro y hy; cases hy
    · intro y hy; injection hy with hy; subst hy; exact ⟨h5, h7.hd.symm⟩
theorem St.is {w : World} {b : Nat} {pv : Value} {s : ByteArray} {deep : Nat} {r : Out Unit} (h : St w b pv s deep r) (c : ByteArray) :
    Calls Tryz.prog 94 #[.pointer (some ⟨b, 0, none⟩), .string c] w fun e w' => e = .returned (.bool (isR (bl c) r)) ∧ w' = w := by
  cases r with
  | error x => exact QErr.is (e := x.1) (p := x.2) h c
  | ok x => exact QIs.is h.1 c
theorem St.take {w : World} {b : Nat} {pv : Value} {s : ByteArray} {deep : Nat} {r : Out Unit} (h : St w b pv s deep r) (hs : s.size ≤ 6000) (c : ByteArray) :
    Calls Tryz.prog 236 #[.pointer (some ⟨b, 0, none⟩), .string c] w fun e w' => e = .returned (.tuple #[]) ∧ St w' b pv s deep (bnd r fun _ ts => takeP (bl c) ts) ∧ w.grownBy w' (some b) := by
  cases r with
  | error x =>
    refine (QErr.take (e := x.1) (p := x.2) h c).mono ?_
    rintro e w' ⟨rfl, rfl⟩
    exact ⟨rfl, h, grown_refl _ _⟩
  | ok x => exact QIs.take h.1 hs c
theorem St.fail {w : World} {b : Nat} {pv : Value} {s : ByteArray} {deep : Nat} {r : Out Unit} (h : St w b pv s deep r) (c : Nat) (ci : Int) (hci : ci = c) (hc : c ≠ 0) :
    Calls Tryz.prog 48 #[.pointer (some ⟨b, 0, none⟩), .int .i64 ci] w fun e w' => e = .returned (.tuple #[]) ∧ St w' b pv s deep (bnd r fun _ ts => .error (c, (hd ts).at_)) ∧ w.grownBy w' (some b) := by
  cases r with
  | error x =>
    refine (QErr.fail (e := x.1) (p := x.2) h ci).mono ?_
    rintro e w' ⟨rfl, rfl⟩
    exact ⟨rfl, h, grown_refl _ _⟩
  | ok x => exact QIs.fail h.1 c ci hci hc
def unitP {α : Type} (r : Out α) : Out Unit := bnd r fun _ ts => .ok ((), ts)
theorem St.kind {w : World} {b : Nat} {pv : Value} {s : ByteArray} {deep : Nat} {r : Out Unit} (h : St w b pv s deep r) (hs : s.size ≤ 6000) (k : Nat) (ki : Int) (hki : ki = k) (hk : ¬ (k = 0 ∨ k = 5)) :
    Calls Tryz.prog 238 #[.pointer (some ⟨b, 0, none⟩), .int .i64 ki] w fun e w' => ∃ x : ByteArray, e = .returned (.string x) ∧ St w' b pv s deep (bnd r fun _ ts => unitP (kindP k ts)) ∧
      Hid (∀ y, r = .ok y → ∀ z, kindP k y.2 = .ok z → bl x = z.1) ∧ w.grownBy w' (some b) := by
  cases r with
  | error x =>
    refine (QErr.kind (e := x.1) (p := x.2) h ki).mono ?_
    rintro e w' ⟨rfl, rfl⟩
    exact ⟨⟨#[]⟩, rfl, h, hid (fun y hy => nomatch hy), grown_refl _ _⟩
  | ok x =>
    refine (QIs.kind h.1 hs k ki hki hk).mono ?_
    rintro e w' ⟨tx, rfl, hq, hg⟩
    refine ⟨tx, rfl, ?_, ?_, hg⟩
    · show St w' b pv s deep (unitP (kindP k x.2))
      cases hkp : kindP k x.2 with
      | error z => rw [hkp] at hq; exact hq
      | ok z => rw [hkp] at hq; exact ⟨hq.1, trivial⟩
    · rintro y hy z hz
      injection hy with hy; subst hy
      rw [hz] at hq; exact hq.2
theorem St.next {w : World} {b : Nat} {pv : Value} {s : ByteArray} {deep : Nat} {r : Out Unit} (h : St w b pv s deep r) (hs : s.size ≤ 6000) (hl : ∃ ts, r = .ok ((), ts) ∧ ¬ ((hd ts).kind = 0 ∨ (hd ts).kind = 5)) :
    Calls Tryz.prog 46 #[.pointer (some ⟨b, 0, none⟩)] w fun e w' => e = .returned (.tuple #[]) ∧ St w' b pv s deep (bnd r fun _ ts => .ok ((), ts.tail)) ∧ w.grownBy w' (some b) := by
  obtain ⟨ts, rfl, hl⟩ := hl
  refine (QIs.next h.1 hs hl).mono ?_
  rintro e w' ⟨rfl, hq, hg⟩
  exact ⟨rfl, ⟨hq, trivial⟩, hg⟩
def PAt (w : World) (a : Nat) (p : PV) : Prop := w.heap[a]? = some (.cells #[.int .i64 p.k, .int .i64 p.n, .int .i64 p.op, .string p.nm, .slice p.ca p.cn p.cc, .slice p.ba p.bn p.bc, .int .i64 p.a, .int .i64 p.b] 131 (0, 0))
theorem PAt.lt {w : World} {a : Nat} {p : PV} (h : PAt w a p) : a < w.heap.size := (Array.getElem?_eq_some_iff.1 h).1
theorem PAt.frozen {w : World} {a : Nat} {p : PV} (h : PAt w a p) (o : Nat) : w.frozen? ⟨a, o, none⟩ = false := by
  unfold PAt at h; simp [World.frozen?, h]
theorem PAt.all {w : World} {a : Nat} {p : PV} (h : PAt w a p) :
    w.cell? ⟨a, 0, none⟩ = some (.int .i64 p.k) ∧ w.cell? ⟨a, 1, none⟩ = some (.int .i64 p.n) ∧ w.cell? ⟨a, 2, none⟩ = some (.int .i64 p.op) ∧ w.cell? ⟨a, 3, none⟩ = some (.string p.nm) ∧
    w.cell? ⟨a, 4, none⟩ = some (.slice p.ca p.cn p.cc) ∧ w.cell? ⟨a, 5, none⟩ = some (.slice p.ba p.bn p.bc) ∧ w.cell? ⟨a, 6, none⟩ = some (.int .i64 p.a) ∧ w.cell? ⟨a, 7, none⟩ = some (.int .i64 p.b) := by
  unfold PAt at h
  refine ⟨?_, ?_, ?_, ?_, ?_, ?_, ?_, ?_⟩ <;> simp [World.cell?, h]
theorem PAt.kept {w w' : World} {a : Nat} {p : PV} (h : PAt w a p) (hw : w'.heap[a]? = w.heap[a]?) : PAt w' a p := hw.trans h
theorem PAt.grown {w w' : World} {a : Nat} {p : PV} {r : Option Nat} (h : PAt w a p) (hg : w.grownBy w' r) (hn : some a ≠ r) : PAt w' a p := (hg.block a h.lt hn).trans h
structure PTok where
  kd : Nat
  at_ : Nat
  tx : ByteArray
  v : Nat
def flatT : List PTok → List Value
  | [] => []
  | t :: l => .int .i64 t.kd :: .int .i64 t.at_ :: .string t.tx :: .int .i64 t.v :: flatT l
theorem flatT_append (l m : List PTok) : flatT (l ++ m) = flatT l ++ flatT m := by
  induction l with
  | nil => rfl
  | cons a l ih => simp [flatT, ih]
theorem flatT_get (l : List PTok) (j : Nat) : (flatT l)[j * 4]? = l[j]?.map (fun t => .int .i64 t.kd) ∧ (flatT l)[j * 4 + 1]? = l[j]?.map (fun t => .int .i64 t.at_) ∧ (flatT l)[j * 4 + 2]? = l[j]?.map (fun t => .string t.tx) ∧ (flatT l)[j * 4 + 3]? = l[j]?.map (fun t => .int .i64 t.v) := by
  induction l generalizing j with
  | nil => simp [flatT]
  | cons r l ih =>
    cases j with
    | zero => simp [flatT]
    | succ j =>
      obtain ⟨h1, h2, h3, h4⟩ := ih j
      refine ⟨?_, ?_, ?_, ?_⟩
      · rw [show (j + 1) * 4 = j * 4 + 1 + 1 + 1 + 1 by omega]; simpa [flatT] using h1
      · rw [show (j + 1) * 4 + 1 = j * 4 + 1 + 1 + 1 + 1 + 1 by omega]; simpa [flatT] using h2
      · rw [show (j + 1) * 4 + 2 = j * 4 + 2 + 1 + 1 + 1 + 1 by omega]; simpa [flatT] using h3
      · rw [show (j + 1) * 4 + 3 = j * 4 + 3 + 1 + 1 + 1 + 1 by omega]; simpa [flatT] using h4
def pk (k : Nat) : Nat := if k = 0 then 4 else if k = 1 then 0 else if k = 2 then 1 else if k = 3 then 2 else if k = 4 then 3 else 5
def TokIs (p : PTok) (t : Tok) : Prop := p.kd = pk t.kind ∧ p.at_ = t.at_ ∧ bl p.tx = t.txt ∧ (t.kind = 1 → (p.v : Int) = numV t.txt)
structure RD (w : World) (b g cp : Nat) (ps : List PTok) (k : Nat) : Prop where
  cells : w.heap[b]? = some (.cells #[.slice (some ⟨g, 0, none⟩) ps.length cp, .int .i64 k] 82 (0, 0))
  own : w.ownsRow 0 87 4 (.slice (some ⟨g, 0, none⟩) ps.length cp) ps.length (flatT ps)
  lt : k < ps.length
theorem RD.below {w w' : World} {b g cp : Nat} {ps : List PTok} {k : Nat} (h : RD w b g cp ps k) (hb : Below w.heap.size w w') : RD w' b g cp ps k :=
  ⟨(hb.block b (Array.getElem?_eq_some_iff.1 h.cells).1).trans h.cells, own_below h.own hb, h.lt⟩
theorem RD.all {w : World} {b g cp : Nat} {ps : List PTok} {k : Nat} (h : RD w b g cp ps k) :
    w.cell? ⟨b, 0, none⟩ = some (.slice (some ⟨g, 0, none⟩) ps.length cp) ∧ w.cell? ⟨b, 1, none⟩ = some (.int .i64 k) ∧ w.frozen? ⟨b, 1, none⟩ = false ∧ b < w.heap.size ∧ g < w.heap.size ∧
    w.cell? ⟨g, k * 4, none⟩ = some (.int .i64 (ps[k]'h.lt).kd) ∧ w.cell? ⟨g, k * 4 + 1, none⟩ = some (.int .i64 (ps[k]'h.lt).at_) ∧ w.cell? ⟨g, k * 4 + 2, none⟩ = some (.string (ps[k]'h.lt).tx) ∧ w.cell? ⟨g, k * 4 + 3, none⟩ = some (.int .i64 (ps[k]'h.lt).v) := by
  obtain ⟨f1, f2, f3, f4⟩ := flatT_get ps k
  rw [List.getElem?_eq_getElem h.lt] at f1 f2 f3 f4
  refine ⟨by simp [World.cell?, h.cells], by simp [World.cell?, h.cells], by simp [World.frozen?, h.cells], (Array.getElem?_eq_some_iff.1 h.cells).1, own_lt h.own, own_cell h.own _ _ f1, own_cell h.own _ _ f2, own_cell h.own _ _ f3, own_cell h.own _ _ f4⟩
set_option maxRecDepth 100000 in
set_option maxHeartbeats 1000000 in
theorem token_any {w : World} {b g cp : Nat} {ps : List PTok} {k : Nat} (h : RD w b g cp ps k) :
    Calls Tryz.prog 33 #[.pointer (some ⟨b, 0, none⟩)] w fun e w' => e = .returned (.agg #[.int .i64 (ps[k]'h.lt).kd, .int .i64 (ps[k]'h.lt).at_, .string (ps[k]'h.lt).tx, .int .i64 (ps[k]'h.lt).v]) ∧ Below w.heap.size w w' := by
  obtain ⟨c0, c1, _, hbl, hgl, d0, d1, d2, d3⟩ := h.all
  have hlt := h.lt
  generalize ps[k]'h.lt = t at *
  obtain ⟨kd, at_, tx, v⟩ := t
  simp only at d0 d1 d2 d3 ⊢
  generalize ps.length = n at *
  clear h
  go_enter Tryz.func33, Tryz.ntmps33
  go_wp2
  go_region
  all_goals
    go_wp2
    exact bodyPost_ret (v := .agg #[.int .i64 kd, .int .i64 at_, .string tx, .int .i64 v]) (by simp [results, Tryz.results33, go_sem]) rfl ⟨rfl, (by repeat (first | exact Below.refl _ _ | assumption | refine Below.alloc ?_ (by first | omega | (simp; omega) | simp) _ | refine Below.setCell ?_ (by first | omega | (simp; omega) | simp) _ | refine below_drewN' ?_ _ | refine Below.drew ?_))⟩
theorem isMark_any (t : PTok) (s : ByteArray) (w : World) :
    Calls Tryz.prog 110 #[.agg #[.int .i64 t.kd, .int .i64 t.at_, .string t.tx, .int .i64 t.v], .string s] w fun e w' => e = .returned (.bool (((t.kd : Int) == 3) && (t.tx.toList == s.toList))) ∧ Below w.heap.size w w' := by
  obtain ⟨kd, at_, tx, v⟩ := t
  simp only
  generalize hk : ((kd : Int) == 3) = x
  cases x
  · go_enter Tryz.func110, Tryz.ntmps110
    go_wp2
    go_ret
    exact ⟨rfl, (by repeat (first | exact Below.refl _ _ | assumption | refine Below.alloc ?_ (by first | omega | (simp; omega) | simp) _ | refine Below.setCell ?_ (by first | omega | (simp; omega) | simp) _ | refine below_drewN' ?_ _ | refine Below.drew ?_))⟩
  · go_enter Tryz.func110, Tryz.ntmps110
    go_wp2
    go_ret
    exact ⟨rfl, (by repeat (first | exact Below.refl _ _ | assumption | refine Below.alloc ?_ (by first | omega | (simp; omega) | simp) _ | refine Below.setCell ?_ (by first | omega | (simp; omega) | simp) _ | refine below_drewN' ?_ _ | refine Below.drew ?_))⟩
theorem isWord_any (t : PTok) (s : ByteArray) (w : World) :
    Calls Tryz.prog 117 #[.agg #[.int .i64 t.kd, .int .i64 t.at_, .string t.tx, .int .i64 t.v], .string s] w fun e w' => e = .returned (.bool (((t.kd : Int) == 1) && (t.tx.toList == s.toList))) ∧ Below w.heap.size w w' := by
  obtain ⟨kd, at_, tx, v⟩ := t
  simp only
  generalize hk : ((kd : Int) == 1) = x
  cases x
  · go_enter Tryz.func117, Tryz.ntmps117
    go_wp2
    go_ret
    exact ⟨rfl, (by repeat (first | exact Below.refl _ _ | assumption | refine Below.alloc ?_ (by first | omega | (simp; omega) | simp) _ | refine Below.setCell ?_ (by first | omega | (simp; omega) | simp) _ | refine below_drewN' ?_ _ | refine Below.drew ?_))⟩
  · go_enter Tryz.func117, Tryz.ntmps117
    go_wp2
    go_ret
    exact ⟨rfl, (by repeat (first | exact Below.refl _ _ | assumption | refine Below.alloc ?_ (by first | omega | (simp; omega) | simp) _ | refine Below.setCell ?_ (by first | omega | (simp; omega) | simp) _ | refine below_drewN' ?_ _ | refine Below.drew ?_))⟩
def ErrAt (w : World) (v : Value) (at_ : Int) (what : Addr) : Prop := ∃ fa : Nat, v = .iface 94 (.pointer (some ⟨fa, 0, none⟩)) ∧ w.heap[fa]? = some (.cells #[.string ⟨#[98, 121, 116, 101]⟩, .int .i64 at_, .iface 389 (.pointer (some what))] 98 (0, 0))
theorem ErrAt.below {w w' : World} {v : Value} {at_ : Int} {what : Addr} (h : ErrAt w v at_ what) (hb : Below w.heap.size w w') : ErrAt w' v at_ what := by
  obtain ⟨fa, h1, h2⟩ := h
  exact ⟨fa, h1, (hb.block fa (Array.getElem?_eq_some_iff.1 h2).1).trans h2⟩
theorem atByte_any (i : Int) (what : Value) (w : World) :
    Calls Tryz.prog 68 #[.int .i64 i, .iface 389 what] w fun e w' => e = .returned (.iface 94 (.pointer (some ⟨w.heap.size, 0, none⟩))) ∧ w' = w.alloc (.cells #[.string ⟨#[98, 121, 116, 101]⟩, .int .i64 i, .iface 389 what] 98) := by
  go_enter Tryz.func68, Tryz.ntmps68
  go_wp2
  go_ret
  exact ⟨rfl, rfl⟩
set_option maxRecDepth 100000 in
set_option maxHeartbeats 1000000 in
theorem cannotStand_any {w : World} {b g cp : Nat} {ps : List PTok} {k : Nat} (h : RD w b g cp ps k) {sy : Addr} (hsy : w.cell? ⟨1, 0, none⟩ = some (.iface 389 (.pointer (some sy)))) :
    Calls Tryz.prog 34 #[.pointer (some ⟨b, 0, none⟩)] w fun e w' => ∃ v, e = .returned v ∧ Hid (ErrAt w' v (ps[k]'h.lt).at_ sy) ∧ Below w.heap.size w w' := by
  have H : Hid (RD w b g cp ps k) := h
  have HD : Hid (RD w.drew b g cp ps k) := RD.below h ((Below.refl _ _).drew)
  have hgl : 1 < w.heap.size := World.block_lt_of_cell? _ _ hsy
  obtain ⟨t, ht⟩ : ∃ t, t = ps[k]'h.lt := ⟨_, rfl⟩
  have HT : Hid (∀ hh : k < ps.length, ps[k]'hh = t) := fun _ => ht.symm
  rw [← ht]
  clear ht h
  have hf : ∀ W : World, (Instr.field 87 (.agg #[.int .i64 t.kd, .int .i64 t.at_, .string t.tx, .int .i64 t.v]) 1).run Tryz.prog W = .ok (.int .i64 t.at_) W := fun _ => rfl
  go_enter Tryz.func34, Tryz.ntmps34
  go_wp2
  go_region_with (first
    | (go_at_call 33
       refine (token_any HD.out).mono ?_
       rintro e w1 ⟨rfl, hb1⟩
       rw [HT.out]
       have HB1 : Hid (Below w.heap.size w w1) := ⟨hb1.os, hb1.tape, hb1.output, hb1.size, hb1.block⟩
       have hsy1 : w1.cell? ⟨1, 0, none⟩ = some (.iface 389 (.pointer (some sy))) := (HB1.out.cell (p := ⟨_, 0, none⟩) hgl).trans hsy
       clear hb1)
    | (go_at_call 68
       refine (atByte_any _ _ _).mono ?_
       rintro e w2 ⟨rfl, rfl⟩))
  all_goals
    go_wp2
    go_ret
    exact ⟨_, rfl, ⟨w1.heap.size, rfl, Go.Deep.blk_alloc_new _ _⟩, HB1.out.alloc HB1.out.size _⟩
def flatC : List (ByteArray × ByteArray × Bool) → List Value
  | [] => []
  | (a, b, c) :: l => .string a :: .string b :: .bool c :: flatC l
def blC (c : ByteArray × ByteArray × Bool) : List UInt8 × List UInt8 × Bool := (bl c.1, bl c.2.1, c.2.2)
theorem kindP_len {k : Nat} {ts : List Tok} {z : List UInt8 × List Tok} (hk : k ≠ 0) (h : kindP k ts = .ok z) : z.2.length + 1 = ts.length ∧ z.1 = (hd ts).txt ∧ z.2 = ts.tail := by
  unfold kindP at h
  split at h
  · rename_i e
    injection h with h; subst h
    cases ts with
    | nil => exact absurd e.symm hk
    | cons t r => exact ⟨rfl, rfl, rfl⟩
  · cases h
theorem takeP_len {c : List UInt8} {ts : List Tok} {z : Unit × List Tok} (h : takeP c ts = .ok z) : z.2.length + 1 = ts.length := by
  unfold takeP at h
  split at h
  · rename_i e
    injection h with h; subst h
    cases ts with
    | nil => exact absurd (Or.inl rfl) (isT_live e)
    | cons t r => rfl
  · cases h
theorem isT_len {c : List UInt8} {ts : List Tok} (e : isT c (hd ts) = true) : ts.tail.length + 1 = ts.length := by
  cases ts with
  | nil => exact absurd (Or.inl rfl) (isT_live e)
  | cons t r => rfl
def LoopRel {α β : Type} (item : List Tok → Out α) (close : List UInt8) (f : β → α) (N : Nat) (ts0 : List Tok) (qs : List β) (rr : Out Unit) : Prop :=
  (∀ e, rr = .error e → listP item close N [] ts0 = .error e) ∧ (∀ ts, rr = .ok ((), ts) → ∃ m, listP item close N [] ts0 = listP item close m (qs.map f) ts ∧ ts.length + 1 ≤ m ∧ qs.length + ts.length ≤ ts0.length) ∧ qs.length ≤ ts0.length + 1
theorem LoopRel.start {α β : Type} (item : List Tok → Out α) (close : List UInt8) (f : β → α) (N : Nat) (ts0 : List Tok) (hN : ts0.length + 1 ≤ N) : LoopRel item close f N ts0 [] (.ok ((), ts0)) :=
  ⟨fun e h => (nomatch h), fun ts h => by injection h with h; injection h with _ h; subst h; exact ⟨N, rfl, hN, by simp⟩, by simp⟩
theorem LoopRel.done {α β : Type} {item : List Tok → Out α} {close : List UInt8} {f : β → α} {N : Nat} {ts0 : List Tok} {qs : List β} {rr : Out Unit} (h : LoopRel item close f N ts0 qs rr) (hd : isR close rr = true ∨ ∃ e, rr = .error e) :
    unitP (listP item close N [] ts0) = (bnd rr fun _ ts => takeP close ts) ∧ ∀ z, listP item close N [] ts0 = .ok z → qs.map f = z.1 := by
  cases rr with
  | error e => rw [h.1 e rfl]; exact ⟨rfl, fun z hz => nomatch hz⟩
  | ok y =>
    obtain ⟨⟨⟩, ts⟩ := y
    rcases hd with hd | ⟨e, hd⟩
    · obtain ⟨m, hL, hm, hq⟩ := h.2.1 ts rfl
      obtain ⟨k, rfl⟩ : ∃ k, m = k + 1 := ⟨m - 1, by omega⟩
      have hd2 : isT close (LS.hd ts) = true := hd
      have e1 : listP item close (k + 1) (qs.map f) ts = .ok (qs.map f, ts.tail) := by
        show (if isT close (LS.hd ts) then _ else _) = _
        rw [hd2]; rfl
      rw [hL, e1]
      refine ⟨?_, fun z hz => by injection hz with hz; subst hz; rfl⟩
      show _ = takeP close ts
      unfold takeP; rw [hd2]; rfl
    · cases hd
theorem condP_len (t : List Tok) (z : (List UInt8 × List UInt8 × Bool) × List Tok) (h : condP t = .ok z) : z.2.length + 1 ≤ t.length := by
  unfold condP at h
  cases h1 : kindP 2 t with
  | error e => rw [h1] at h; cases h
  | ok y =>
    have l1 := (kindP_len (by decide) h1).1
    rw [h1] at h
    simp only [bnd] at h
    cases h2 : signP y.2 with
    | error e => rw [h2] at h; cases h
    | ok u =>
      have l2 : u.2.length ≤ y.2.length := by
        unfold signP at h2
        split at h2
        · injection h2 with h2; subst h2; simp
        · cases h3 : takeP [61] y.2 with
          | error e => rw [h3] at h2; cases h2
          | ok q => rw [h3] at h2; injection h2 with h2; subst h2; have := takeP_len h3; show q.2.length ≤ _; omega
      rw [h2] at h
      simp only at h
      cases h3 : kindP 3 u.2 with
      | error e => rw [h3] at h; cases h
      | ok q =>
        have l3 := (kindP_len (by decide) h3).1
        rw [h3] at h
        injection h with h; subst h
        show q.2.length + 1 ≤ _
        omega
def CAt (w : World) (a : Nat) (x y : ByteArray) (v : Bool) : Prop := w.heap[a]? = some (.cells #[.string x, .string y, .bool v] 283 (0, 0))
theorem CAt.lt {w : World} {a : Nat} {x y : ByteArray} {v : Bool} (h : CAt w a x y v) : a < w.heap.size := (Array.getElem?_eq_some_iff.1 h).1
theorem CAt.all {w : World} {a : Nat} {x y : ByteArray} {v : Bool} (h : CAt w a x y v) : w.cell? ⟨a, 0, none⟩ = some (.string x) ∧ w.cell? ⟨a, 1, none⟩ = some (.string y) ∧ w.cell? ⟨a, 2, none⟩ = some (.bool v) := by
  unfold CAt at h
  refine ⟨?_, ?_, ?_⟩ <;> simp [World.cell?, h]
theorem CAt.frozen {w : World} {a : Nat} {x y : ByteArray} {v : Bool} (h : CAt w a x y v) (o : Nat) : w.frozen? ⟨a, o, none⟩ = false := by
  unfold CAt at h; simp [World.frozen?, h]
theorem CAt.grown {w w' : World} {a : Nat} {x y : ByteArray} {v : Bool} {r : Option Nat} (h : CAt w a x y v) (hg : w.grownBy w' r) (hn : some a ≠ r) : CAt w' a x y v := (hg.block a h.lt hn).trans h
theorem own_same {w w' : World} {base : Nat} {e : TypeId} {size : Nat} {v : Value} {n : Nat} {xs : List Value} (h : w.ownsRow base e size v n xs) (hb : ∀ k, v.ownBlock = some k → w'.heap[k]? = w.heap[k]?) : w'.ownsRow base e size v n xs := by
  refine ⟨h.1, ?_⟩
  rcases h.2 with h2 | ⟨g, cap, cur, rfl, hg, hh, r⟩
  · exact Or.inl h2
  · exact Or.inr ⟨g, cap, cur, rfl, hg, (hb g rfl).trans hh, r⟩
def CondsAre (w : World) (base : Nat) (p : PV) (cs : List (List UInt8 × List UInt8 × Bool)) : Prop := ∃ qs : List (ByteArray × ByteArray × Bool), w.ownsRow base 283 3 (.slice p.ca p.cn p.cc) qs.length (flatC qs) ∧ qs.map blC = cs
theorem CondsAre.nil (w : World) (base : Nat) (p : PV) (h1 : p.ca = none) (h2 : p.cn = 0) (h3 : p.cc = 0) : CondsAre w base p [] := ⟨[], by rw [h1, h2, h3]; exact World.ownsRow_nil _ _ _ _, rfl⟩
end Go.Proofs.YtpbemaaghbbocaaGreatDoor
