/- Parts of the proof, joined: QLen, QTight, QErrs, QRep, QJoin -/
import Derived.Test.YtmncdbepjhmkgaaGreatDoorJ07
import Derived.Test.YtmncdbepjhmkgaaGreatDoorJ08
/- What is read is read away: the tokens left are fewer. -/
namespace Go.Proofs.YtmncdbepjhmkgaaGreatDoor
open Go.RowKit LS

theorem bnd_ok {α β : Type} {x : Out α} {f : α → List Tok → Out β} {z : β × List Tok} (h : bnd x f = .ok z) : ∃ a t, x = .ok (a, t) ∧ f a t = .ok z := by
  cases x with
  | error e => cases h
  | ok y => exact ⟨y.1, y.2, rfl, h⟩
theorem listP_len {α : Type} {item : List Tok → Out α} {close : List UInt8} (hl : ∀ t z, item t = .ok z → z.2.length + 1 ≤ t.length) : ∀ (n : Nat) (acc : List α) (ts : List Tok) (z : List α × List Tok), listP item close n acc ts = .ok z → z.2.length + 1 ≤ ts.length
  | 0, _, _, _, h => by cases h
  | n + 1, acc, ts, z, h => by
    have h' : (if isT close (hd ts) then .ok (acc, ts.tail) else bnd (if acc.isEmpty then .ok ((), ts) else takeP [44] ts) fun _ r => bnd (item r) fun a r => listP item close n (acc ++ [a]) r) = .ok z := h
    cases hc : isT close (hd ts)
    · rw [hc] at h'
      obtain ⟨_, t1, h1, h2⟩ := bnd_ok (x := if acc.isEmpty then .ok ((), ts) else takeP [44] ts) h'
      obtain ⟨a, t2, h3, h4⟩ := bnd_ok h2
      have l1 : t1.length ≤ ts.length := by
        split at h1
        · injection h1 with h1; injection h1 with _ h1; subst h1; exact Nat.le_refl _
        · have := takeP_len h1; simp at this; omega
      have l2 := hl t1 _ h3
      have l3 := listP_len hl n _ _ _ h4
      simp at l2
      omega
    · rw [hc] at h'
      injection h' with h'; subst h'
      have := isT_len hc
      show ts.tail.length + 1 ≤ ts.length
      omega
theorem kindP_le (k : Nat) (hk : k ≠ 0) : ∀ t z, kindP k t = .ok z → z.2.length + 1 ≤ t.length := fun _ _ h => Nat.le_of_eq (kindP_len hk h).1
theorem selP_len {ts : List Tok} {z : Nd × List Tok} (h : selP ts = .ok z) : z.2.length + 1 ≤ ts.length := by
  unfold selP at h
  obtain ⟨a, t, h1, h2⟩ := bnd_ok h
  have l1 : t.length + 1 = ts.length := by
    unfold nameP at h1
    split at h1
    · cases h1
    · exact (kindP_len (by decide) h1).1
  split at h2
  · obtain ⟨cs, t2, h3, h4⟩ := bnd_ok h2
    have l2 := listP_len condP_len _ _ _ _ h3
    injection h4 with h4; subst h4
    have : t.tail.length ≤ t.length := by simp
    simp at l2 ⊢
    omega
  · injection h2 with h2; subst h2; simp; omega
theorem winP_len {o : Nat} {ts : List Tok} {z : Tr × List Tok} (h : winP o ts = .ok z) : z.2.length + 1 ≤ ts.length := by
  unfold winP at h
  obtain ⟨_, t1, h1, h⟩ := bnd_ok h
  obtain ⟨_, t2, h2, h⟩ := bnd_ok h
  obtain ⟨_, t3, h3, h⟩ := bnd_ok h
  obtain ⟨_, t4, h4, h⟩ := bnd_ok h
  obtain ⟨_, t5, h5, h⟩ := bnd_ok h
  obtain ⟨_, t6, h6, h⟩ := bnd_ok h
  injection h with h; subst h
  have a1 := takeP_len h1
  have a2 := selP_len h2
  have a3 := takeP_len h3
  have a4 : t4.length ≤ t3.length := by
    unfold sizeP at h4
    split at h4
    · injection h4 with h4; injection h4 with _ h4; subst h4; simp
    · cases h4
  have a5 := takeP_len h5
  have a6 := takeP_len h6
  simp at a1 a2 a3 a5 a6 ⊢
  omega
theorem withinP_len {rec : Nat → List Tok → Nat → Out Tr} (hr : ∀ lv t d z, rec lv t d = .ok z → z.2.length + 1 ≤ t.length) {ts : List Tok} {deep : Nat} {z : Tr × List Tok} (h : withinP rec ts deep = .ok z) : z.2.length + 1 ≤ ts.length := by
  unfold withinP at h
  obtain ⟨_, t1, h1, h⟩ := bnd_ok h
  obtain ⟨_, t2, h2, h⟩ := bnd_ok h
  obtain ⟨_, t3, h3, h⟩ := bnd_ok h
  injection h with h; subst h
  have a1 := takeP_len h1
  have a2 := hr _ _ _ _ h2
  have a3 := takeP_len h3
  simp at a1 a2 a3 ⊢
  omega
theorem groupP_len {rec : Nat → List Tok → Nat → Out Tr} (hr : ∀ lv t d z, rec lv t d = .ok z → z.2.length + 1 ≤ t.length) {g : Nat} {ts : List Tok} {deep : Nat} {z : Tr × List Tok} (h : groupP rec g ts deep = .ok z) : z.2.length + 1 ≤ ts.length := by
  unfold groupP at h
  obtain ⟨_, t1, h1, h⟩ := bnd_ok h
  obtain ⟨_, t2, h2, h⟩ := bnd_ok h
  obtain ⟨_, t3, h3, h⟩ := bnd_ok h
  obtain ⟨_, t4, h4, h⟩ := bnd_ok h
  injection h with h; subst h
  have a1 := takeP_len h1
  have a2 := takeP_len h2
  have a3 := listP_len (kindP_le 2 (by decide)) _ _ _ _ h3
  have a4 := withinP_len hr h4
  simp at a1 a2 a3 a4 ⊢
  omega
theorem innerP_len {rec : Nat → List Tok → Nat → Out Tr} (hr : ∀ lv t d z, rec lv t d = .ok z → z.2.length + 1 ≤ t.length) {ts : List Tok} {deep : Nat} {z : Tr × List Tok} (h : innerP rec ts deep = .ok z) : z.2.length + 1 ≤ ts.length := by
  unfold innerP at h
  have ht : ts.tail.length ≤ ts.length := by simp
  split at h
  · rename_i hk
    injection h with h; subst h
    cases ts with
    | nil => exact absurd hk (by decide)
    | cons t r => exact Nat.le_refl _
  · split at h
    · obtain ⟨_, t1, h1, h⟩ := bnd_ok h
      injection h with h; subst h
      have := hr _ _ _ _ h1
      simp at this ⊢
      omega
    · split at h
      · exact withinP_len hr h
      · split at h
        · have := groupP_len hr h; omega
        · split at h
          · have := winP_len h; omega
          · obtain ⟨_, t1, h1, h⟩ := bnd_ok h
            injection h with h; subst h
            exact selP_len h1
/-- What is left behind a part is shorter; behind a loop, no longer. -/
theorem parse_len : ∀ (n : Nat) (m : Bool) (lv : Nat) (a : Tr) (ts : List Tok) (deep : Nat) (z : Tr × List Tok), parse n m lv a ts deep = .ok z → z.2.length + (if m then 0 else 1) ≤ ts.length
  | 0, _, _, _, _, _, _, h => by cases h
  | n + 1, false, lv, a, ts, deep, z, h => by
    have hr : ∀ lv t d z, parse n false lv .nil t d = .ok z → z.2.length + 1 ≤ t.length := fun lv t d z h => parse_len n false lv .nil t d z h
    unfold parse at h
    split at h
    · unfold factorP at h
      split at h
      · split at h
        · cases h
        · exact innerP_len hr h
      · cases h
    · obtain ⟨b, t1, h1, h2⟩ := bnd_ok h
      have l1 := hr _ _ _ _ h1
      have l2 := parse_len n true lv b t1 deep z h2
      simp at l1 l2 ⊢
      omega
  | n + 1, true, lv, a, ts, deep, z, h => by
    unfold parse at h
    split at h
    · injection h with h; subst h; simp
    · obtain ⟨b, t1, h1, h2⟩ := bnd_ok h
      have l1 := parse_len n false _ _ _ _ _ h1
      have l2 := parse_len n true lv _ t1 deep z h2
      simp at l1 l2 ⊢
      omega
end Go.Proofs.YtmncdbepjhmkgaaGreatDoor
/- How tightly a part holds together: the document's own answer. -/
namespace Go.Proofs.YtmncdbepjhmkgaaGreatDoor
open Go.RowKit LS

set_option maxHeartbeats 1000000 in
theorem tight_any (p : PV) (nd : Nd) (w : World) (hk : p.k = nd.kind) (ho : p.op = nd.op) :
    Calls Tryz.prog 32 #[.agg #[.int .i64 p.k, .int .i64 p.n, .int .i64 p.op, .string p.nm, .slice p.ca p.cn p.cc, .slice p.ba p.bn p.bc, .int .i64 p.a, .int .i64 p.b]] w fun r w' => r = .returned (.int .i64 (tightT nd)) ∧ Below w.heap.size w w' := by
  obtain ⟨k, pn, op, nm, ca, cn, cc, ba, bn, bc, pa, pb⟩ := p
  simp only at hk ho
  subst hk; subst ho
  by_cases h6 : nd.kind = 6
  · have b6 : ((nd.kind : Int) == 6) = true := by rw [h6]; rfl
    have HT : Hid (tightT nd = 1) := hid (by unfold tightT; rw [if_pos h6])
    clear h6
    go_enter Tryz.func32, Tryz.ntmps32
    go_wp2
    go_ret
    exact ⟨by rw [HT.out]; rfl, (by repeat (first | exact Below.refl _ _ | assumption | refine Below.alloc ?_ (by first | omega | (simp; omega) | simp) _ | refine Below.setCell ?_ (by first | omega | (simp; omega) | simp) _ | refine below_drewN' ?_ _ | refine Below.drew ?_))⟩
  · have b6 : ((nd.kind : Int) == 6) = false := by rw [beq_eq_false_iff_ne]; omega
    by_cases h4 : nd.kind = 4
    · have b4 : ((nd.kind : Int) == 4) = true := by rw [h4]; rfl
      by_cases h2 : nd.op < 2
      · have b2 : decide ((nd.op : Int) < 2) = true := decide_eq_true (by omega)
        have HT : Hid (tightT nd = 2) := hid (by unfold tightT; rw [if_neg h6, if_pos h4, if_pos h2])
        clear h6 h4
        go_enter Tryz.func32, Tryz.ntmps32
        go_wp2
        go_ret
        exact ⟨by rw [HT.out]; rfl, (by repeat (first | exact Below.refl _ _ | assumption | refine Below.alloc ?_ (by first | omega | (simp; omega) | simp) _ | refine Below.setCell ?_ (by first | omega | (simp; omega) | simp) _ | refine below_drewN' ?_ _ | refine Below.drew ?_))⟩
      · have b2 : decide ((nd.op : Int) < 2) = false := decide_eq_false (by omega)
        have HT : Hid (tightT nd = 3) := hid (by unfold tightT; rw [if_neg h6, if_pos h4, if_neg h2])
        clear h6 h4
        go_enter Tryz.func32, Tryz.ntmps32
        go_wp2
        go_ret
        exact ⟨by rw [HT.out]; rfl, (by repeat (first | exact Below.refl _ _ | assumption | refine Below.alloc ?_ (by first | omega | (simp; omega) | simp) _ | refine Below.setCell ?_ (by first | omega | (simp; omega) | simp) _ | refine below_drewN' ?_ _ | refine Below.drew ?_))⟩
    · have b4 : ((nd.kind : Int) == 4) = false := by rw [beq_eq_false_iff_ne]; omega
      have HT : Hid (tightT nd = 4) := hid (by unfold tightT; rw [if_neg h6, if_neg h4])
      clear h6 h4
      go_enter Tryz.func32, Tryz.ntmps32
      go_wp2
      go_ret
      exact ⟨by rw [HT.out]; rfl, (by repeat (first | exact Below.refl _ _ | assumption | refine Below.alloc ?_ (by first | omega | (simp; omega) | simp) _ | refine Below.setCell ?_ (by first | omega | (simp; omega) | simp) _ | refine below_drewN' ?_ _ | refine Below.drew ?_))⟩
end Go.Proofs.YtmncdbepjhmkgaaGreatDoor
/- Behind an error the document's reader reads nothing more. -/
namespace Go.Proofs.YtmncdbepjhmkgaaGreatDoor
open Go.RowKit LS

set_option maxRecDepth 100000 in
set_option maxHeartbeats 2000000 in
theorem QErr.factor {w : World} {b : Nat} {pv : Value} {e p deep : Nat} (h : QErr w b pv e p deep) :
    Calls Tryz.prog 100 #[.pointer (some ⟨b, 0, none⟩)] w fun r w' => r = .returned (.int .i64 0) ∧ w' = w := by
  obtain ⟨q, h1, h2, h3, h4, h5, h6⟩ := h
  obtain ⟨c0, c1, c2, c3, c4, c5, c6, c7, c8⟩ := h1.all
  have hne : ((q.e : Int) != 0) = true := by rw [bne_iff_ne]; omega
  have H : Hid (QErr w b pv e p deep) := ⟨q, h1, h2, h3, h4, h5, h6⟩
  clear h1 h2 h3 h4 h5 h6
  generalize hx1 : ((q.k : Int) == 1) = x1
  generalize hx2 : ((q.k : Int) == 2) = x2
  go_enter Tryz.func100, Tryz.ntmps100
  go_wp2_with fail
  refine (QErr.is H.out _).mono ?_
  rintro r w' ⟨rfl, rfl⟩
  go_wp2_with fail
  refine (QErr.is H.out _).mono ?_
  rintro r w' ⟨rfl, rfl⟩
  go_wp2_with fail
  refine (QErr.is H.out _).mono ?_
  rintro r w' ⟨rfl, rfl⟩
  go_wp2_with fail
  refine (QErr.is H.out _).mono ?_
  rintro r w' ⟨rfl, rfl⟩
  cases x1 <;> cases x2
  all_goals
    go_wp2_with fail
    refine (QErr.fail H.out _).mono ?_
    rintro r w' ⟨rfl, rfl⟩
    go_wp2
    go_ret
    exact ⟨rfl, rfl⟩
set_option maxHeartbeats 2000000 in
theorem QErr.term {w : World} {b : Nat} {pv : Value} {e p deep : Nat} (h : QErr w b pv e p deep) :
    Calls Tryz.prog 86 #[.pointer (some ⟨b, 0, none⟩)] w fun r w' => r = .returned (.int .i64 0) ∧ w' = w := by
  have H : Hid (QErr w b pv e p deep) := h
  clear h
  go_enter Tryz.func86, Tryz.ntmps86
  go_wp2_with fail
  refine (QErr.factor H.out).mono ?_
  rintro r w' ⟨rfl, rfl⟩
  go_wp2
  go_loop [3] (fun v => v = .int .i64 0) (fun _ => 0)
  case atStart => rfl
  case round =>
    subst hrel
    go_wp2_with fail
    refine (QErr.is H.out _).mono ?_
    rintro r w' ⟨rfl, rfl⟩
    go_wp2_with fail
    refine (QErr.is H.out _).mono ?_
    rintro r w' ⟨rfl, rfl⟩
    go_wp2
    go_ret
    exact ⟨rfl, rfl⟩
set_option maxHeartbeats 2000000 in
theorem QErr.sum {w : World} {b : Nat} {pv : Value} {e p deep : Nat} (h : QErr w b pv e p deep) :
    Calls Tryz.prog 60 #[.pointer (some ⟨b, 0, none⟩)] w fun r w' => r = .returned (.int .i64 0) ∧ w' = w := by
  have H : Hid (QErr w b pv e p deep) := h
  clear h
  go_enter Tryz.func60, Tryz.ntmps60
  go_wp2_with fail
  refine (QErr.term H.out).mono ?_
  rintro r w' ⟨rfl, rfl⟩
  go_wp2
  go_loop [3] (fun v => v = .int .i64 0) (fun _ => 0)
  case atStart => rfl
  case round =>
    subst hrel
    go_wp2_with fail
    refine (QErr.is H.out _).mono ?_
    rintro r w' ⟨rfl, rfl⟩
    go_wp2_with fail
    refine (QErr.is H.out _).mono ?_
    rintro r w' ⟨rfl, rfl⟩
    go_wp2
    go_ret
    exact ⟨rfl, rfl⟩
set_option maxHeartbeats 2000000 in
theorem QErr.query {w : World} {b : Nat} {pv : Value} {e p deep : Nat} (h : QErr w b pv e p deep) :
    Calls Tryz.prog 25 #[.pointer (some ⟨b, 0, none⟩)] w fun r w' => r = .returned (.int .i64 0) ∧ w' = w := by
  have H : Hid (QErr w b pv e p deep) := h
  clear h
  go_enter Tryz.func25, Tryz.ntmps25
  go_wp2_with fail
  refine (QErr.sum H.out).mono ?_
  rintro r w' ⟨rfl, rfl⟩
  go_wp2
  go_loop [3] (fun v => v = .int .i64 0) (fun _ => 0)
  case atStart => rfl
  case round =>
    subst hrel
    go_wp2_with fail
    refine (QErr.is H.out _).mono ?_
    rintro r w' ⟨rfl, rfl⟩
    go_wp2
    go_ret
    exact ⟨rfl, rfl⟩
set_option maxHeartbeats 2000000 in
theorem QErr.within {w : World} {b : Nat} {pv : Value} {e p deep : Nat} (h : QErr w b pv e p deep) :
    Calls Tryz.prog 113 #[.pointer (some ⟨b, 0, none⟩)] w fun r w' => r = .returned (.int .i64 0) ∧ w' = w := by
  have H : Hid (QErr w b pv e p deep) := h
  clear h
  go_enter Tryz.func113, Tryz.ntmps113
  go_wp2_with fail
  refine (QErr.take H.out _).mono ?_
  rintro r w' ⟨rfl, rfl⟩
  go_wp2_with fail
  refine (QErr.query H.out).mono ?_
  rintro r w' ⟨rfl, rfl⟩
  go_wp2_with fail
  refine (QErr.take H.out _).mono ?_
  rintro r w' ⟨rfl, rfl⟩
  go_wp2
  go_ret
  exact ⟨rfl, rfl⟩
end Go.Proofs.YtmncdbepjhmkgaaGreatDoor
/- The parts' row, and the tree that a part of it stands for. -/
namespace Go.Proofs.YtmncdbepjhmkgaaGreatDoor
open Go.RowKit LS

def NamesAre (w : World) (base : Nat) (p : PV) (ns : List (List UInt8)) : Prop := ∃ bs : List ByteArray, w.ownsRow base 9 1 (.slice p.ba p.bn p.bc) bs.length (bs.map .string) ∧ bs.map bl = ns
/-- A part's cells say what the node says. -/
def partIs (w : World) (nd : Nd) (p : PV) : Prop := p.k = nd.kind ∧ p.n = nd.n ∧ p.op = nd.op ∧ bl p.nm = nd.name ∧ CondsAre w 0 p nd.conds ∧ NamesAre w 0 p nd.by_
/-- Part i of the row stands for the tree. -/
def Rep (w : World) (xs : List Value) : Tr → Nat → Prop
  | .nil, _ => True
  | .node _ _ nd l r, i => ∃ (p : PV) (a b : Nat), (xs.drop (i * 8)).take 8 = p.cells ∧ partIs w nd p ∧ p.a = a ∧ p.b = b ∧ a ≤ i ∧ b ≤ i ∧ Rep w xs l a ∧ Rep w xs r b
theorem cells_len (p : PV) : p.cells.length = 8 := rfl
theorem kept_row {w w' : World} {b : Nat} {pv pv' : Value} {q : QV} {n : Nat} {xs : List Value} (hq : QAt w b q) (hown : w.ownsRow 0 80 8 pv n xs) (hk : Kept b pv w pv' w')
    {base : Nat} {e : TypeId} {size : Nat} {v : Value} {m : Nat} {ys : List Value} (h : w.ownsRow base e size v m ys) (h1 : 74 ≠ e) (h2 : e ≠ 80) : w'.ownsRow base e size v m ys := by
  refine own_same h (fun k hkk => hk.block k (h.lt k hkk).2 ?_ ?_)
  · rintro rfl
    exact own_ne_block h hq h1 hkk.symm
  · rw [← hkk]
    rcases own_ne h hown h2 with h3 | h3
    · rw [h3] at hkk; cases hkk
    · exact h3
theorem CondsAre.kept {w w' : World} {b : Nat} {pv pv' : Value} {q : QV} {n : Nat} {xs : List Value} (hq : QAt w b q) (hown : w.ownsRow 0 80 8 pv n xs) (hk : Kept b pv w pv' w') {base : Nat} {p : PV} {cs : List (List UInt8 × List UInt8 × Bool)} (h : CondsAre w base p cs) : CondsAre w' base p cs := by
  obtain ⟨qs, h1, h2⟩ := h
  exact ⟨qs, kept_row hq hown hk h1 (by decide) (by decide), h2⟩
theorem NamesAre.kept {w w' : World} {b : Nat} {pv pv' : Value} {q : QV} {n : Nat} {xs : List Value} (hq : QAt w b q) (hown : w.ownsRow 0 80 8 pv n xs) (hk : Kept b pv w pv' w') {base : Nat} {p : PV} {ns : List (List UInt8)} (h : NamesAre w base p ns) : NamesAre w' base p ns := by
  obtain ⟨qs, h1, h2⟩ := h
  exact ⟨qs, kept_row hq hown hk h1 (by decide) (by decide), h2⟩
theorem take8_append {xs ys : List Value} {i : Nat} {l : List Value} (h : (xs.drop (i * 8)).take 8 = l) (hl : l.length = 8) : ((xs ++ ys).drop (i * 8)).take 8 = l := by
  have h8 : i * 8 + 8 ≤ xs.length := by
    have := congrArg List.length h
    rw [List.length_take, List.length_drop, hl] at this
    omega
  rw [List.drop_append_of_le_length (by omega), List.take_append_of_le_length (by rw [List.length_drop]; omega)]
  exact h
theorem Rep.kept {w w' : World} {b : Nat} {pv pv' : Value} {q : QV} {n : Nat} {xs : List Value} (hq : QAt w b q) (hown : w.ownsRow 0 80 8 pv n xs) (hk : Kept b pv w pv' w') (ys : List Value) : ∀ (t : Tr) (i : Nat), Rep w xs t i → Rep w' (xs ++ ys) t i
  | .nil, _, _ => trivial
  | .node _ _ nd l r, i, h => by
    obtain ⟨p, a, c, h1, ⟨g1, g2, g3, g4, g5, g6⟩, h3, h4, h5, h6, h7, h8⟩ := h
    exact ⟨p, a, c, take8_append h1 (cells_len p), ⟨g1, g2, g3, g4, g5.kept hq hown hk, g6.kept hq hown hk⟩, h3, h4, h5, h6, Rep.kept hq hown hk ys l a h7, Rep.kept hq hown hk ys r c h8⟩
theorem row_last {xs : List Value} {n : Nat} (h : xs.length = n * 8) (p : PV) : ((xs ++ p.cells).drop (n * 8)).take 8 = p.cells := by
  rw [← h, List.drop_left]; rfl
end Go.Proofs.YtmncdbepjhmkgaaGreatDoor
/- Texts with a comma between each two: the document's own way. -/
namespace Go.Proofs.YtmncdbepjhmkgaaGreatDoor
open Go.RowKit LS

def joinTo (ps : List (List UInt8)) : Nat → List UInt8
  | 0 => []
  | k + 1 => (if 0 < k then joinTo ps k ++ [44] else joinTo ps k) ++ ps.getD k []
theorem bl_app (a b : ByteArray) : bl (a ++ b) = bl a ++ bl b := by simp [bl]
set_option maxRecDepth 100000 in
set_option maxHeartbeats 1000000 in
theorem joined_any (av : Option Addr) (cp base : Nat) (bs : List ByteArray) (w : World) (hown : w.ownsRow base 9 1 (.slice av bs.length cp) bs.length (bs.map .string)) (hl : bs.length ≤ 100001) (hq : Hid (∀ q ∈ bs, q.size ≤ 100000)) :
    Calls Tryz.prog 31 #[.slice av bs.length cp] w fun e w' => ∃ r : ByteArray, e = .returned (.string r) ∧ r.size ≤ 100001 * bs.length ∧ Hid (bl r = joinTo (bs.map bl) bs.length) ∧ w' = w := by
  go_enter Tryz.func31, Tryz.ntmps31
  go_wp2
  go_loop [3, 4] (fun sv i => ∃ (k : Nat) (r : ByteArray), k ≤ bs.length ∧ i = .int .i64 k ∧ sv = .string r ∧ r.size ≤ 100001 * k ∧ Hid (bl r = joinTo (bs.map bl) k)) (fun _ i => bs.length - (intOf i).toNat)
  case atStart => exact ⟨0, ⟨#[]⟩, Nat.zero_le _, rfl, rfl, Nat.le_refl _, rfl⟩
  case round =>
    obtain ⟨k, r, hk, rfl, rfl, hrs, HR⟩ := hrel
    by_cases hlt : k < bs.length
    · have hg : ∃ g, av = some ⟨g, 0, none⟩ := by
        obtain ⟨g, cp', h⟩ := own_some hown (by omega)
        injection h with h1; exact ⟨g, h1⟩
      obtain ⟨g, rfl⟩ := hg
      have c1 : w.cell? ⟨g, k, none⟩ = some (.string bs[k]) := own_cell hown _ _ (by simp [hlt])
      have HP : Hid ((bs.map bl).getD k [] = bl bs[k]) := hid (by simp [hlt])
      have hq2 := hq.out _ (List.getElem_mem hlt)
      generalize bs[k] = x at c1 HP hq2
      by_cases h0 : 0 < k
      · have HF : Hid (bl ((r ++ ⟨#[44]⟩) ++ x) = joinTo (bs.map bl) (k + 1)) := hid (by
          rw [joinTo, if_pos h0, HP.out, bl_app, bl_app, HR.out]; rfl)
        have e44 : (⟨#[44]⟩ : ByteArray).size = 1 := rfl
        have hsz : ((r ++ ⟨#[44]⟩) ++ x).size ≤ 100001 * (k + 1) := by simp only [ByteArray.size_append]; omega
        have a1 : ∀ W, (Op.stringOp .add r ⟨#[44]⟩).run Tryz.prog W = .ok (.string (r ++ ⟨#[44]⟩)) W := fun W => run_string_add_sum W r ⟨#[44]⟩ (by omega)
        have a2 : ∀ W, (Op.stringOp .add (r ++ ⟨#[44]⟩) x).run Tryz.prog W = .ok (.string ((r ++ ⟨#[44]⟩) ++ x)) W := fun W => run_string_add_sum W _ _ (by simp only [ByteArray.size_append]; omega)
        clear e44
        go_wp2
        go_round
        case rel => exact ⟨k + 1, _, by omega, by go_num, rfl, hsz, HF⟩
        case measure => simp [intOf]; omega
      · have HF : Hid (bl (r ++ x) = joinTo (bs.map bl) (k + 1)) := hid (by
          rw [joinTo, if_neg h0, HP.out, bl_app, HR.out])
        have hsz : (r ++ x).size ≤ 100001 * (k + 1) := by simp only [ByteArray.size_append]; omega
        have a2 : ∀ W, (Op.stringOp .add r x).run Tryz.prog W = .ok (.string (r ++ x)) W := fun W => run_string_add_sum W _ _ (by omega)
        go_wp2
        go_round
        case rel => exact ⟨k + 1, _, by omega, by go_num, rfl, hsz, HF⟩
        case measure => simp [intOf]; omega
    · obtain rfl : k = bs.length := by omega
      go_wp2
      go_ret
      exact ⟨r, rfl, hrs, HR, rfl⟩
end Go.Proofs.YtmncdbepjhmkgaaGreatDoor
