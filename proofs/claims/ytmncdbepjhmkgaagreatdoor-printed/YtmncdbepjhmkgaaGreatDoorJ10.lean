/- Parts of the proof, joined: QDec, QPart -/
import Derived.Test.YtmncdbepjhmkgaaGreatDoorJ09
import Derived.Laws.IdiomStrings
/- Numbers, printed: the document's own way. -/
namespace Go.Proofs.YtmncdbepjhmkgaaGreatDoor
open Go.RowKit LS

def dig (d : Nat) : UInt8 := UInt8.ofNat (48 + d)
def decS (n : Nat) : List UInt8 := if n ≤ 9 then [dig n] else decS (n / 10) ++ [dig (n % 10)]
termination_by n
decreasing_by omega
theorem conv_digit (W : World) (d : Nat) (hd : d ≤ 9) : (convert 65 9 (.slice (some ⟨W.heap.size, 0, none⟩) 1 1)).run Tryz.prog (W.alloc (.cells #[.int .u8 ((48 : Int) + d)] 5)) = .ok (.string ⟨#[dig d]⟩) (W.alloc (.cells #[.int .u8 ((48 : Int) + d)] 5)) := by
  refine run_convert_bytes_back _ _ _ 5 ⟨W.heap.size, 0, none⟩ 1 [dig d] Tryz.underlying65 Tryz.underlying5 Tryz.underlying9 ?_
  intro j hj
  obtain rfl : j = 0 := by simp at hj; omega
  rw [add_zero_block]
  have h := Go.Deep.blk_alloc_new W (.cells #[.int .u8 ((48 : Int) + d)] 5)
  simp only [World.cell?, h]
  have e : ((dig d).toNat : Int) = 48 + d := by
    have : (dig d).toNat = 48 + d := by unfold dig; simp; omega
    omega
  simp [e]
theorem decS_small {n : Nat} (h : n ≤ 9) : decS n = [dig n] := by rw [decS, if_pos h]
theorem decS_great {n : Nat} (h : ¬ n ≤ 9) : decS n = decS (n / 10) ++ [dig (n % 10)] := by rw [decS, if_neg h]
set_option maxRecDepth 100000 in
set_option maxHeartbeats 1000000 in
theorem decimal_any (n : Nat) (w : World) (hn : n ≤ 1000000000) :
    Calls Tryz.prog 28 #[.int .i64 n] w fun e w' => ∃ r : ByteArray, e = .returned (.string r) ∧ r.size ≤ 1000000001 ∧ Hid (bl r = decS n) ∧ Below w.heap.size w w' := by
  go_enter Tryz.func28, Tryz.ntmps28
  go_wp2
  go_loopw [0, 3] (fun v sv wr => ∃ (m : Nat) (r : ByteArray), v = .int .i64 m ∧ sv = .string r ∧ r.size + m ≤ n ∧ Hid (decS n = decS m ++ bl r) ∧ Below w.heap.size w wr) (fun v _ _ => (intOf v).toNat)
  case atStart => exact ⟨n, ⟨#[]⟩, rfl, rfl, Nat.le_of_eq (Nat.zero_add n), hid (by simp [bl]), Below.refl _ _⟩
  case round =>
    obtain ⟨m, r, rfl, rfl, hr, HD, hb⟩ := hrel
    have hsz := hb.size
    by_cases h9 : m ≤ 9
    · have hcv := conv_digit wr m h9
      have HF : Hid (bl (⟨#[dig m]⟩ ++ r) = decS n) := hid (by rw [bl_app, HD.out, decS_small h9]; rfl)
      have e1 : (⟨#[dig m]⟩ : ByteArray).size = 1 := rfl
      have a1 : ∀ W, (Op.stringOp .add ⟨#[dig m]⟩ r).run Tryz.prog W = .ok (.string (⟨#[dig m]⟩ ++ r)) W := fun W => run_string_add_sum W _ _ (by omega)
      have hfin : (⟨#[dig m]⟩ ++ r).size ≤ 1000000001 := by simp only [ByteArray.size_append]; omega
      have hg9 : ¬ (9 < (m : Int)) := by omega
      go_wp2
      go_ret
      exact ⟨_, rfl, hfin, HF, (by repeat (first | exact Below.refl _ _ | assumption | refine Below.alloc ?_ (by first | omega | (simp; omega) | simp) _ | refine Below.setCell ?_ (by first | omega | (simp; omega) | simp) _ | refine below_drewN' ?_ _ | refine Below.drew ?_))⟩
    · have hcv := conv_digit wr (m % 10) (by omega)
      rw [show ((m % 10 : Nat) : Int) = (m : Int) % 10 from by omega] at hcv
      have HF : Hid (decS n = decS (m / 10) ++ bl (⟨#[dig (m % 10)]⟩ ++ r)) := hid (by rw [bl_app, HD.out, decS_great h9, List.append_assoc]; rfl)
      have e1 : (⟨#[dig (m % 10)]⟩ : ByteArray).size = 1 := rfl
      have a1 : ∀ W, (Op.stringOp .add ⟨#[dig (m % 10)]⟩ r).run Tryz.prog W = .ok (.string (⟨#[dig (m % 10)]⟩ ++ r)) W := fun W => run_string_add_sum W _ _ (by omega)
      have hfin : (⟨#[dig (m % 10)]⟩ ++ r).size + m / 10 ≤ n := by simp only [ByteArray.size_append]; omega
      have hg9 : 9 < (m : Int) := by omega
      go_wp2
      go_roundw
      case rel => exact ⟨m / 10, _, by simp, rfl, hfin, HF, (by repeat (first | exact Below.refl _ _ | assumption | refine Below.alloc ?_ (by first | omega | (simp; omega) | simp) _ | refine Below.setCell ?_ (by first | omega | (simp; omega) | simp) _ | refine below_drewN' ?_ _ | refine Below.drew ?_))⟩
      case measure => simp [intOf]; omega
end Go.Proofs.YtmncdbepjhmkgaaGreatDoor
/- A part of a query, as the document's reader reads it: what each of its methods hands back, in one form; brackets. -/
namespace Go.Proofs.YtmncdbepjhmkgaaGreatDoor
open Go.RowKit LS

/-- How many parts there may be: a token still to come pays for one. -/
def Bud {α : Type} (M n : Nat) (r : Out α) : Prop := match r with
  | .error _ => n ≤ M
  | .ok x => n + x.2.length ≤ M
theorem Bud.le {α : Type} {M n : Nat} {r : Out α} (h : Bud M n r) : n ≤ M := by
  cases r with
  | error e => exact h
  | ok x => exact Nat.le_trans (Nat.le_add_right _ _) h
theorem Bud.bnd {α β : Type} {M n : Nat} {r : Out α} {f : α → List Tok → Out β} (h : Bud M n r) (hf : ∀ a ts z, r = .ok (a, ts) → f a ts = .ok z → z.2.length ≤ ts.length) : Bud M n (bnd r f) := by
  cases r with
  | error e => exact h
  | ok x =>
    obtain ⟨a, ts⟩ := x
    have h' : n + ts.length ≤ M := h
    show Bud M n (f a ts)
    cases hz : f a ts with
    | error e => exact (show n ≤ M by omega)
    | ok z => have := hf a ts z rfl hz; exact (show n + z.2.length ≤ M by omega)
theorem Bud.unit {α : Type} {M n : Nat} {r : Out α} (h : Bud M n r) : Bud M n (unitP r) := by
  cases r with
  | error e => exact h
  | ok x => exact h
theorem Bud.of_unit {α : Type} {M n : Nat} {r : Out α} (h : Bud M n (unitP r)) : Bud M n r := by
  cases r with
  | error e => exact h
  | ok x => exact h
theorem Bud.up {α : Type} {M M' n n' : Nat} {r : Out α} (h : Bud M n r) (hM : M + n' ≤ M' + n) : Bud M' n' r := by
  cases r with
  | error e => have h' : n ≤ M := h; exact (show n' ≤ M' by omega)
  | ok x => have h' : n + x.2.length ≤ M := h; exact (show n' + x.2.length ≤ M' by omega)
theorem Bud.take {M n : Nat} {r : Out Unit} (h : Bud M n r) (c : List UInt8) : Bud M n (LS.bnd r fun _ ts => takeP c ts) :=
  h.bnd fun _ _ _ _ hz => by have := takeP_len hz; omega
/-- The state behind a part. -/
structure PartRes (w : World) (b : Nat) (pv : Value) (s : ByteArray) (deep : Nat) (xs : List Value) (M : Nat) (R : Out Tr) (i : Int) (w' : World) : Prop where
  out : ∃ (n' : Nat) (pv' : Value) (ys : List Value), St w' b pv' s deep (unitP R) ∧ w'.ownsRow 0 80 8 pv' n' (xs ++ ys) ∧ Kept b pv w pv' w' ∧ Bud M n' R ∧
    (∀ t z, R = .ok (t, z) → ∃ k : Nat, i = k ∧ Rep w' (xs ++ ys) t k ∧ k + 1 = n')
/-- A method that reads a part, as R says it, where at most L tokens are to come. -/
def PartC (f : FuncId) (s : ByteArray) (R : List Tok → Nat → Out Tr) (L : Nat) : Prop :=
  ∀ (w : World) (b : Nat) (pv : Value) (deep : Nat) (r : Out Unit) (n : Nat) (xs : List Value) (M : Nat), St w b pv s deep r → w.ownsRow 0 80 8 pv n xs → M ≤ 6000 → Bud M n r → (∀ ts, r = .ok ((), ts) → ts.length ≤ L) → deep ≤ 20 →
    Calls Tryz.prog f #[.pointer (some ⟨b, 0, none⟩)] w fun e w' => ∃ i : Int, e = .returned (.int .i64 i) ∧ PartRes w b pv s deep xs M (LS.bnd r fun _ ts => R ts deep) i w'
theorem PartC.mono {f : FuncId} {s : ByteArray} {R : List Tok → Nat → Out Tr} {L L' : Nat} (h : PartC f s R L) (hl : L' ≤ L) : PartC f s R L' :=
  fun w b pv deep r n xs M h1 h2 h3 h4 h5 h6 => h w b pv deep r n xs M h1 h2 h3 h4 (fun ts e => Nat.le_trans (h5 ts e) hl) h6
/-- behind an error. -/
theorem PartRes.error {w : World} {b : Nat} {pv : Value} {s : ByteArray} {deep n : Nat} {xs : List Value} {M : Nat} {x : Nat × Nat} (h : St w b pv s deep (.error x)) (hown : w.ownsRow 0 80 8 pv n xs) (hb : n ≤ M) : PartRes w b pv s deep xs M (.error x) 0 w :=
  ⟨n, pv, [], h, by rw [List.append_nil]; exact hown, Kept.refl _ _ _, hb, fun _ _ h => nomatch h⟩
theorem row_grown {w w' : World} {b : Nat} {pv : Value} {s : ByteArray} {deep n : Nat} {xs : List Value} {r : Out Unit} (h : St w b pv s deep r) (hown : w.ownsRow 0 80 8 pv n xs) (hg : w.grownBy w' (some b)) : w'.ownsRow 0 80 8 pv n xs := by
  obtain ⟨q, hq, _⟩ := h.view
  exact hown.kept hg (Or.inr (fun e => own_ne_block hown hq (by decide) e.symm))
theorem unit_bnd {α : Type} {r : Out Unit} {f : Unit → List Tok → Out α} : unitP (bnd r f) = bnd r fun a ts => unitP (f a ts) := by
  cases r with
  | error e => rfl
  | ok x => rfl
theorem unit_unit (r : Out Unit) : unitP r = r := by
  cases r with
  | error e => rfl
  | ok x => rfl
theorem bnd_unit {α β : Type} (r : Out α) (f : Unit → List Tok → Out β) : bnd (unitP r) f = bnd r fun _ ts => f () ts := by
  cases r with
  | error e => rfl
  | ok x => rfl
theorem bnd_bnd {α β γ : Type} (r : Out α) (f : α → List Tok → Out β) (g : β → List Tok → Out γ) : bnd (bnd r f) g = bnd r fun a ts => bnd (f a ts) g := by
  cases r with
  | error e => rfl
  | ok x => rfl
theorem len_take {r : Out Unit} {c : List UInt8} {L : Nat} (h : ∀ ts, r = .ok ((), ts) → ts.length ≤ L + 1) : ∀ ts, (bnd r fun _ ts => takeP c ts) = .ok ((), ts) → ts.length ≤ L := by
  intro ts e
  obtain ⟨_, t, h1, h2⟩ := bnd_ok e
  have := takeP_len h2
  have := h t h1
  simp at *
  omega
/-- What was read before stands for what it stood for, behind what only the reader's own cells saw. -/
theorem PartRes.behind {w w' w2 : World} {b : Nat} {pv pv' : Value} {s : ByteArray} {deep n' : Nat} {xs ys : List Value} {M : Nat} {R R2 : Out Tr} {i : Int} (h1 : St w' b pv' s deep (unitP R)) (h2 : w'.ownsRow 0 80 8 pv' n' (xs ++ ys)) (h3 : Kept b pv w pv' w')
    (h4 : Bud M n' R2) (h5 : ∀ t z, R = .ok (t, z) → ∃ k : Nat, i = k ∧ Rep w' (xs ++ ys) t k ∧ k + 1 = n') (hg : w'.grownBy w2 (some b)) (hs : St w2 b pv' s deep (unitP R2)) (hR : ∀ t z, R2 = .ok (t, z) → ∃ z', R = .ok (t, z')) : PartRes w b pv s deep xs M R2 i w2 := by
  obtain ⟨q, hq, hqp, _⟩ := h1.view
  refine ⟨n', pv', ys, hs, row_grown h1 h2 hg, h3.grown hg, h4, ?_⟩
  intro t z e
  obtain ⟨z', e'⟩ := hR t z e
  obtain ⟨k, k1, k2, k3⟩ := h5 t z' e'
  refine ⟨k, k1, ?_, k3⟩
  have := Rep.kept hq h2 ((Kept.refl b pv' w').grown hg) [] t k k2
  rwa [List.append_nil] at this
theorem unit_close {α : Type} (R : Out α) (c : List UInt8) : unitP (bnd R fun a ts => bnd (takeP c ts) fun _ z => .ok (a, z)) = bnd (unitP R) fun _ ts => takeP c ts := by
  cases R with
  | error e => rfl
  | ok x =>
    show unitP (bnd (takeP c x.2) fun _ z => .ok (x.1, z)) = takeP c x.2
    cases takeP c x.2 with
    | error e => rfl
    | ok y => rfl
theorem bud_close {α : Type} {M n : Nat} {R : Out α} (h : Bud M n R) (c : List UInt8) : Bud M n (bnd R fun a ts => bnd (takeP c ts) fun _ z => .ok (a, z)) :=
  h.bnd fun a ts z _ hz => by
    obtain ⟨_, t, h1, h2⟩ := bnd_ok hz
    injection h2 with h2
    subst h2
    have := takeP_len h1
    simp at *
    omega
theorem ok_close {α : Type} {R : Out α} {c : List UInt8} {t : α} {z : List Tok} (h : (bnd R fun a ts => bnd (takeP c ts) fun _ z => (.ok (a, z) : Out α)) = .ok (t, z)) : ∃ z', R = .ok (t, z') := by
  obtain ⟨a, ts, h1, h2⟩ := bnd_ok h
  obtain ⟨_, t2, h3, h4⟩ := bnd_ok h2
  injection h4 with h4
  injection h4 with h4 h5
  subst h4
  exact ⟨ts, h1⟩
theorem withinP_eq (r : Out Unit) (rec : Nat → List Tok → Nat → Out Tr) (deep : Nat) : (bnd r fun _ ts => withinP rec ts deep) = bnd (bnd (bnd r fun _ ts => takeP [40] ts) fun _ ts => rec 0 ts deep) fun a ts => bnd (takeP [41] ts) fun _ z => .ok (a, z) := by
  rw [bnd_bnd, bnd_bnd]; rfl
set_option maxHeartbeats 2000000 in
theorem within_c {s : ByteArray} (hs : s.size ≤ 6000) {rec : Nat → List Tok → Nat → Out Tr} {L : Nat} (hq : PartC 25 s (fun ts d => rec 0 ts d) L) :
    PartC 113 s (withinP rec) (L + 1) := by
  intro w b pv deep r n xs M h hown hM hB hL hdp
  have H : Hid (St w b pv s deep r) := h
  have HO : Hid (w.ownsRow 0 80 8 pv n xs) := hown
  have HQ : Hid (PartC 25 s (fun ts d => rec 0 ts d) L) := hq
  have HB : Hid (Bud M n r) := hB
  have HL : Hid (∀ ts, r = .ok ((), ts) → ts.length ≤ L + 1) := hL
  clear h hown hq hB hL
  go_enter Tryz.func113, Tryz.ntmps113
  go_wp2_with fail
  refine (St.take H.out hs _).mono ?_
  rintro e w1 ⟨rfl, hst, hg⟩
  rw [show bl ⟨#[40]⟩ = [40] from rfl] at hst
  have HS1 : Hid (St w1 b pv s deep (bnd r fun _ ts => takeP [40] ts)) := hst
  have HO1 : Hid (w1.ownsRow 0 80 8 pv n xs) := row_grown H.out HO.out hg
  have HG1 : Hid (w.grownBy w1 (some b)) := hg
  clear hst hg
  go_wp2_with fail
  refine (HQ.out w1 b pv deep _ n xs M HS1.out HO1.out hM (Bud.take HB.out _) (len_take HL.out) hdp).mono ?_
  rintro e w2 ⟨i, rfl, hp⟩
  obtain ⟨n2, pv2, ys, s2, o2, k2, b2, r2⟩ := hp.out
  have HS2 : Hid (St w2 b pv2 s deep (unitP (bnd (bnd r fun _ ts => takeP [40] ts) fun _ ts => rec 0 ts deep))) := s2
  have HO2 : Hid (w2.ownsRow 0 80 8 pv2 n2 (xs ++ ys)) := o2
  have HK2 : Hid (Kept b pv w pv2 w2) := ((Kept.refl b pv w).grown HG1.out).trans k2
  have HB2 : Hid _ := b2
  have HR2 : Hid _ := r2
  clear hp s2 o2 k2 b2 r2
  go_wp2_with fail
  refine (St.take HS2.out hs _).mono ?_
  rintro e w3 ⟨rfl, hst, hg⟩
  rw [show bl ⟨#[41]⟩ = [41] from rfl, ← unit_close, ← withinP_eq] at hst
  have HS3 : Hid _ := hst
  have HG3 : Hid _ := hg
  clear hst hg
  go_wp2
  go_ret
  refine ⟨i, rfl, PartRes.behind HS2.out HO2.out HK2.out ?_ HR2.out HG3.out HS3.out ?_⟩
  · rw [withinP_eq]; exact bud_close HB2.out _
  · intro t z e; rw [withinP_eq] at e; exact ok_close e
theorem St.lay {w : World} {b : Nat} {pv : Value} {s : ByteArray} {deep n : Nat} {xs : List Value} {r : Out Unit} (h : St w b pv s deep r) (hown : w.ownsRow 0 80 8 pv n xs) (hn : n ≤ 6000) (p : PV) :
    Calls Tryz.prog 62 #[.pointer (some ⟨b, 0, none⟩), .agg #[.int .i64 p.k, .int .i64 p.n, .int .i64 p.op, .string p.nm, .slice p.ca p.cn p.cc, .slice p.ba p.bn p.bc, .int .i64 p.a, .int .i64 p.b]] w fun e w' =>
      ∃ pv', e = .returned (.int .i64 n) ∧ St w' b pv' s deep r ∧ w'.ownsRow 0 80 8 pv' (n + 1) (xs ++ p.cells) ∧ Kept b pv w pv' w' := by
  cases r with
  | error x =>
    obtain ⟨q, h1, h2, h3, h4, h5, h6⟩ := h
    subst h2
    refine (qlay_any w b q h1 n xs hown hn p).mono ?_
    rintro e w' ⟨pv', rfl, hq, ho, hk⟩
    exact ⟨pv', rfl, ⟨_, hq, rfl, h3, h4, h5, h6⟩, ho, hk⟩
  | ok x =>
    obtain ⟨⟨q, h1, h2, h3, h4, h5, h6, h7⟩, _⟩ := h
    subst h2
    refine (qlay_any w b q h1 n xs hown hn p).mono ?_
    rintro e w' ⟨pv', rfl, hq, ho, hk⟩
    exact ⟨pv', rfl, ⟨⟨_, hq, rfl, h3, h4, h5, h6, h7⟩, trivial⟩, ho, hk⟩
theorem rep_new {w w' : World} {b : Nat} {pv pv' : Value} {s : ByteArray} {deep n : Nat} {xs : List Value} {r : Out Unit} (h : St w b pv s deep r) (hown : w.ownsRow 0 80 8 pv n xs) (hk : Kept b pv w pv' w') (p : PV) (nd : Nd) (t u : Tr) (a c : Nat)
    (hp : partIs w nd p) (ha : p.a = a) (hc : p.b = c) (ha' : a ≤ n) (hc' : c ≤ n) (ht : Rep w xs t a) (hu : Rep w xs u c) : Rep w' (xs ++ p.cells) (.node 0 0 nd t u) n := by
  obtain ⟨q, hq, _⟩ := h.view
  obtain ⟨g1, g2, g3, g4, g5, g6⟩ := hp
  exact ⟨p, a, c, row_last hown.1 p, ⟨g1, g2, g3, g4, g5.kept hq hown hk, g6.kept hq hown hk⟩, ha, hc, ha', hc', Rep.kept hq hown hk _ t a ht, Rep.kept hq hown hk _ u c hu⟩
theorem Kept.set {b : Nat} {p1 p2 : Value} {w1 w2 : World} (h : Kept b p1 w1 p2 w2) {a : Addr} (ha : w1.heap.size ≤ a.block) (v : Value) : Kept b p1 w1 p2 (w2.setCell a v) :=
  ⟨h.os, h.tape, h.output, by rw [Go.Deep.nblk_setCell]; exact h.size, fun k hk hb hp => (Go.Deep.blk_setCell_other _ _ _ _ (by omega)).trans (h.block k hk hb hp), h.own⟩
theorem own_base {w : World} {base : Nat} {e : TypeId} {size : Nat} {v : Value} {n : Nat} {xs : List Value} (h : w.ownsRow base e size v n xs) : w.ownsRow 0 e size v n xs := by
  refine ⟨h.1, ?_⟩
  rcases h.2 with h2 | ⟨g, cap, cur, rfl, _, r⟩
  · exact Or.inl h2
  · exact Or.inr ⟨g, cap, cur, rfl, Nat.zero_le _, r⟩
/-- What a cell of another block holds does not hang on a store into a box of one's own. -/
theorem own_setBox {w : World} {base : Nat} {e : TypeId} {size : Nat} {v : Value} {n : Nat} {xs : List Value} (h : w.ownsRow base e size v n xs) {a : Nat} {p : PV} (hp : PAt w a p) (he : 80 ≠ e) (o : Nat) (x : Value) : (w.setCell ⟨a, o, none⟩ x).ownsRow base e size v n xs :=
  own_same h fun k hk => Go.Deep.blk_setCell_other _ _ _ _ (by rintro rfl; exact own_ne_block h hp he hk.symm)
theorem CondsAre.grown {w w' : World} {base : Nat} {p : PV} {cs : List (List UInt8 × List UInt8 × Bool)} (h : CondsAre w base p cs) {r : Option Nat} (hg : w.grownBy w' r) (hr : ∀ k, (Value.slice p.ca p.cn p.cc).ownBlock = some k → some k ≠ r) : CondsAre w' base p cs := by
  obtain ⟨qs, h1, h2⟩ := h
  exact ⟨qs, own_same h1 (fun k hk => hg.block k (h1.lt k hk).2 (hr k hk)), h2⟩
end Go.Proofs.YtmncdbepjhmkgaaGreatDoor
