/- Parts of the proof, joined: QWf, QText -/
import Derived.Test.YtmncdbepjhmkgaaGreatDoorJ09
import Derived.Test.YtmncdbepjhmkgaaGreatDoorJ10
/- What is read is a whole tree, and no larger than its tokens. -/
namespace Go.Proofs.YtmncdbepjhmkgaaGreatDoor
open Go.RowKit LS

def tw : List Tok → Nat
  | [] => 0
  | t :: r => t.txt.length + 30 + tw r
def cw : List (List UInt8 × List UInt8 × Bool) → Nat
  | [] => 0
  | c :: r => c.1.length + c.2.1.length + 6 + cw r
def nw : List (List UInt8) → Nat
  | [] => 0
  | c :: r => c.length + 1 + nw r
def ownW (a : Nd) : Nat := 24 + a.name.length + cw a.conds + nw a.by_
def wT : Tr → Nat
  | .nil => 0
  | .node _ _ a l r => ownW a + wT l + wT r
def isNil : Tr → Bool
  | .nil => true
  | .node _ _ _ _ _ => false
/-- A part has the parts that its kind wants. -/
def wfT : Tr → Prop
  | .nil => True
  | .node _ _ a l r => a.kind ≤ 6 ∧ a.op ≤ 4 ∧ (a.kind = 4 → a.op ≤ 3) ∧ (a.kind = 5 → a.op ≤ 3) ∧ 0 ≤ a.n ∧ a.n ≤ 1000000000 ∧ (3 ≤ a.kind → isNil l = false) ∧ (a.kind = 4 ∨ a.kind = 6 → isNil r = false) ∧ (a.kind ≤ 2 → isNil l = true ∧ isNil r = true) ∧ (a.kind = 3 ∨ a.kind = 5 → isNil r = true) ∧ wfT l ∧ wfT r
theorem tw_tail (ts : List Tok) : tw ts.tail ≤ tw ts := by
  cases ts with
  | nil => exact Nat.le_refl _
  | cons t r => show tw r ≤ t.txt.length + 30 + tw r; omega
theorem tw_hd {ts : List Tok} (h : ¬ ((hd ts).kind = 0)) : (hd ts).txt.length + 30 + tw ts.tail = tw ts := by
  cases ts with
  | nil => exact absurd rfl h
  | cons t r => rfl
theorem tw_takeP {c : List UInt8} {ts : List Tok} {z : Unit × List Tok} (h : takeP c ts = .ok z) : tw z.2 + 30 ≤ tw ts := by
  unfold takeP at h
  split at h
  · rename_i e
    injection h with h; subst h
    have := tw_hd (fun h => isT_live e (Or.inl h))
    show tw ts.tail + 30 ≤ tw ts
    omega
  · cases h
theorem tw_kindP {k : Nat} {ts : List Tok} {z : List UInt8 × List Tok} (hk : k ≠ 0) (h : kindP k ts = .ok z) : tw z.2 + z.1.length + 30 = tw ts := by
  unfold kindP at h
  split at h
  · rename_i e
    injection h with h; subst h
    have := tw_hd (ts := ts) (by rw [e]; exact hk)
    show tw ts.tail + (hd ts).txt.length + 30 = tw ts
    omega
  · cases h
theorem cw_append (l m : List (List UInt8 × List UInt8 × Bool)) : cw (l ++ m) = cw l + cw m := by
  induction l with
  | nil => simp [cw]
  | cons a l ih => simp [cw, ih]; omega
theorem nw_append (l m : List (List UInt8)) : nw (l ++ m) = nw l + nw m := by
  induction l with
  | nil => simp [nw]
  | cons a l ih => simp [nw, ih]; omega
theorem tw_listP {α : Type} {item : List Tok → Out α} {close : List UInt8} (f : List α → Nat) (hf : ∀ t z l, item t = .ok z → f (l ++ [z.1]) + tw z.2 ≤ f l + tw t) : ∀ (n : Nat) (acc : List α) (ts : List Tok) (z : List α × List Tok), listP item close n acc ts = .ok z → f z.1 + tw z.2 ≤ f acc + tw ts
  | 0, _, _, _, h => by cases h
  | n + 1, acc, ts, z, h => by
    have h' : (if isT close (hd ts) then .ok (acc, ts.tail) else bnd (if acc.isEmpty then .ok ((), ts) else takeP [44] ts) fun _ r => bnd (item r) fun a r => listP item close n (acc ++ [a]) r) = .ok z := h
    cases hc : isT close (hd ts)
    · rw [hc] at h'
      obtain ⟨_, t1, h1, h2⟩ := bnd_ok (x := if acc.isEmpty then .ok ((), ts) else takeP [44] ts) h'
      obtain ⟨a, t2, h3, h4⟩ := bnd_ok h2
      have l1 : tw t1 ≤ tw ts := by
        split at h1
        · injection h1 with h1; injection h1 with _ h1; subst h1; exact Nat.le_refl _
        · have := tw_takeP h1; simp at this; omega
      have l2 := hf t1 _ acc h3
      have l3 := tw_listP f hf n _ _ _ h4
      simp at l2
      omega
    · rw [hc] at h'
      injection h' with h'; subst h'
      have := tw_tail ts
      show f acc + tw ts.tail ≤ f acc + tw ts
      omega
theorem tw_condP (t : List Tok) (z : (List UInt8 × List UInt8 × Bool) × List Tok) (l : List (List UInt8 × List UInt8 × Bool)) (h : condP t = .ok z) : cw (l ++ [z.1]) + tw z.2 ≤ cw l + tw t := by
  unfold condP at h
  obtain ⟨a, t1, h1, h⟩ := bnd_ok h
  obtain ⟨v, t2, h2, h⟩ := bnd_ok h
  obtain ⟨b, t3, h3, h⟩ := bnd_ok h
  injection h with h; subst h
  have l1 := tw_kindP (by decide) h1
  have l3 := tw_kindP (by decide) h3
  have l2 : tw t2 ≤ tw t1 := by
    unfold signP at h2
    split at h2
    · injection h2 with h2; injection h2 with _ h2; subst h2; exact tw_tail _
    · obtain ⟨_, t4, h4, h5⟩ := bnd_ok h2
      injection h5 with h5; injection h5 with _ h5; subst h5
      have := tw_takeP h4
      simp at this
      omega
  rw [cw_append]
  simp [cw] at *
  omega
theorem tw_selP {ts : List Tok} {z : Nd × List Tok} (h : selP ts = .ok z) : ownW z.1 + 6 + tw z.2 ≤ tw ts ∧ z.1.kind = 1 ∧ z.1.op = 0 ∧ z.1.n = 0 ∧ z.1.by_ = [] := by
  unfold selP at h
  obtain ⟨a, t, h1, h2⟩ := bnd_ok h
  have l1 : tw t + a.length + 30 = tw ts := by
    unfold nameP at h1
    split at h1
    · cases h1
    · exact tw_kindP (by decide) h1
  split at h2
  · obtain ⟨cs, t2, h3, h4⟩ := bnd_ok h2
    injection h4 with h4; subst h4
    have l2 := tw_listP cw tw_condP _ _ _ _ h3
    have l3 := tw_tail t
    refine ⟨?_, rfl, rfl, rfl, rfl⟩
    simp [ownW, cw, nw] at *
    omega
  · injection h2 with h2; subst h2
    refine ⟨?_, rfl, rfl, rfl, rfl⟩
    simp [ownW, cw, nw] at *
    omega
theorem numV_bounds (l : List UInt8) : 0 ≤ numV l ∧ numV l ≤ 1000000000 := by
  unfold numV
  cases h : number 1000000000 l with
  | none => simp
  | some v => have := number_le h; simp; omega
theorem leaf_wf {a : Nd} (hk : a.kind ≤ 2) (ho : a.op ≤ 4) (hn : 0 ≤ a.n ∧ a.n ≤ 1000000000) : wfT (leafT a) :=
  ⟨by omega, ho, by omega, by omega, hn.1, hn.2, by omega, by omega, fun _ => ⟨rfl, rfl⟩, by omega, trivial, trivial⟩
theorem tw_winP {o : Nat} (ho : o ≤ 4) {ts : List Tok} {z : Tr × List Tok} (h : winP o ts = .ok z) : wfT z.1 ∧ isNil z.1 = false ∧ wT z.1 + tw z.2 ≤ tw ts := by
  unfold winP at h
  obtain ⟨_, t1, h1, h⟩ := bnd_ok h
  obtain ⟨p, t2, h2, h⟩ := bnd_ok h
  obtain ⟨_, t3, h3, h⟩ := bnd_ok h
  obtain ⟨m, t4, h4, h⟩ := bnd_ok h
  obtain ⟨_, t5, h5, h⟩ := bnd_ok h
  obtain ⟨_, t6, h6, h⟩ := bnd_ok h
  injection h with h; subst h
  have a1 := tw_takeP h1
  have a2 := tw_selP h2
  have a3 := tw_takeP h3
  have a4 : tw t4 ≤ tw t3 ∧ 1 ≤ m ∧ m ≤ 1000 := by
    unfold sizeP at h4
    split at h4
    · rename_i hh
      injection h4 with h4; injection h4 with h4 h4'; subst h4; subst h4'
      exact ⟨tw_tail _, hh.2, (numI_bounds 1000 _).2⟩
    · cases h4
  have a5 := tw_takeP h5
  have a6 := tw_takeP h6
  refine ⟨leaf_wf (Nat.le_refl 2) ho ⟨by show 0 ≤ m; omega, by show m ≤ _; omega⟩, rfl, ?_⟩
  simp [leafT, wT, ownW, nw] at *
  omega
def InvP (rec : Nat → List Tok → Nat → Out Tr) : Prop := ∀ lv t d z, rec lv t d = .ok z → wfT z.1 ∧ isNil z.1 = false ∧ wT z.1 + tw z.2 ≤ tw t
theorem tw_withinP {rec : Nat → List Tok → Nat → Out Tr} (hr : InvP rec) {ts : List Tok} {deep : Nat} {z : Tr × List Tok} (h : withinP rec ts deep = .ok z) : wfT z.1 ∧ isNil z.1 = false ∧ wT z.1 + tw z.2 ≤ tw ts := by
  unfold withinP at h
  obtain ⟨_, t1, h1, h⟩ := bnd_ok h
  obtain ⟨a, t2, h2, h⟩ := bnd_ok h
  obtain ⟨_, t3, h3, h⟩ := bnd_ok h
  injection h with h; subst h
  have a1 := tw_takeP h1
  obtain ⟨b1, b2, b3⟩ := hr _ _ _ _ h2
  have a3 := tw_takeP h3
  refine ⟨b1, b2, ?_⟩
  simp at *
  omega
theorem tw_groupP {rec : Nat → List Tok → Nat → Out Tr} (hr : InvP rec) {g : Nat} (hg : g ≤ 3) {ts : List Tok} {deep : Nat} {z : Tr × List Tok} (h : groupP rec g ts deep = .ok z) : wfT z.1 ∧ isNil z.1 = false ∧ wT z.1 + tw z.2 ≤ tw ts := by
  unfold groupP at h
  obtain ⟨_, t1, h1, h⟩ := bnd_ok h
  obtain ⟨_, t2, h2, h⟩ := bnd_ok h
  obtain ⟨ns, t3, h3, h⟩ := bnd_ok h
  obtain ⟨a, t4, h4, h⟩ := bnd_ok h
  injection h with h; subst h
  have a1 := tw_takeP h1
  have a2 := tw_takeP h2
  have a3 := tw_listP nw (fun t z l hz => by have := tw_kindP (by decide) hz; rw [nw_append]; simp [nw]; omega) _ _ _ _ h3
  obtain ⟨b1, b2, b3⟩ := tw_withinP hr h4
  refine ⟨⟨by show (5 : Nat) ≤ 6; omega, by show g ≤ 4; omega, fun _ => hg, fun _ => hg, Int.le_refl _, by show (0 : Int) ≤ _; omega, fun _ => b2, fun h => by simp at h, fun h => absurd (show (5 : Nat) ≤ 2 from h) (by omega), fun _ => rfl, b1, trivial⟩, rfl, ?_⟩
  simp [wT, ownW, cw, nw] at *
  omega
theorem idx_small {w : List UInt8} {l : List (List UInt8)} {i : Nat} (h : idx w l = some i) : i < l.length := by
  induction l generalizing i with
  | nil => cases h
  | cons x l ih =>
    unfold idx at h
    split at h
    · injection h with h; subst h; simp
    · cases hi : idx w l with
      | none => rw [hi] at h; cases h
      | some j => rw [hi] at h; injection h with h; subst h; have := ih hi; simp; omega
theorem tw_innerP {rec : Nat → List Tok → Nat → Out Tr} (hr : InvP rec) {ts : List Tok} {deep : Nat} {z : Tr × List Tok} (h : innerP rec ts deep = .ok z) : wfT z.1 ∧ isNil z.1 = false ∧ wT z.1 + tw z.2 ≤ tw ts := by
  unfold innerP at h
  have ht := tw_tail ts
  split at h
  · rename_i hk
    injection h with h; subst h
    have := tw_hd (ts := ts) (by omega)
    refine ⟨leaf_wf (Nat.zero_le _) (Nat.zero_le _) (numV_bounds _), rfl, ?_⟩
    simp [leafT, wT, ownW, cw, nw] at *
    omega
  · split at h
    · rename_i hm
      obtain ⟨a, t1, h1, h⟩ := bnd_ok h
      injection h with h; subst h
      obtain ⟨b1, b2, b3⟩ := hr _ _ _ _ h1
      have := tw_hd (ts := ts) (fun h => isT_live hm (Or.inl h))
      refine ⟨⟨by show (3 : Nat) ≤ 6; omega, Nat.zero_le _, fun _ => Nat.zero_le _, fun _ => Nat.zero_le _, Int.le_refl _, by show (0 : Int) ≤ _; omega, fun _ => b2, fun h => by simp [nd0] at h, fun h => absurd (show (3 : Nat) ≤ 2 from h) (by omega), fun _ => rfl, b1, trivial⟩, rfl, ?_⟩
      simp [wT, ownW, cw, nw, nd0] at *
      omega
    · split at h
      · exact tw_withinP hr h
      · split at h
        · rename_i g hg
          have := idx_small hg
          obtain ⟨b1, b2, b3⟩ := tw_groupP hr (show g ≤ 3 by simp [groupWords] at this; omega) h
          exact ⟨b1, b2, by omega⟩
        · split at h
          · rename_i o ho
            have := idx_small ho
            obtain ⟨b1, b2, b3⟩ := tw_winP (show o ≤ 4 by simp [overWords] at this; omega) h
            exact ⟨b1, b2, by omega⟩
          · obtain ⟨p, t1, h1, h⟩ := bnd_ok h
            injection h with h; subst h
            obtain ⟨a1, a2, a3, a4, a5⟩ := tw_selP h1
            simp only at a1 a2 a3 a4
            refine ⟨leaf_wf (by omega) (by omega) ⟨by omega, by omega⟩, rfl, ?_⟩
            simp [leafT, wT] at *
            omega
theorem parse_wf : ∀ (n : Nat) (m : Bool) (lv : Nat) (a : Tr) (ts : List Tok) (deep : Nat) (z : Tr × List Tok), (m = true → wfT a ∧ isNil a = false) → parse n m lv a ts deep = .ok z → wfT z.1 ∧ isNil z.1 = false ∧ wT z.1 + tw z.2 ≤ tw ts + (if m then wT a else 0)
  | 0, _, _, _, _, _, _, _, h => by cases h
  | n + 1, false, lv, a, ts, deep, z, _, h => by
    have hr : InvP (fun lv t d => parse n false lv .nil t d) := fun lv t d z h => by
      obtain ⟨h1, h2, h3⟩ := parse_wf n false lv .nil t d z (fun h => nomatch h) h
      exact ⟨h1, h2, by simpa using h3⟩
    unfold parse at h
    split at h
    · unfold factorP at h
      split at h
      · split at h
        · cases h
        · obtain ⟨h1, h2, h3⟩ := tw_innerP hr h
          exact ⟨h1, h2, by simpa using h3⟩
      · cases h
    · obtain ⟨b, t1, h1, h2⟩ := bnd_ok h
      obtain ⟨l1, l2, l3⟩ := hr _ _ _ _ h1
      obtain ⟨m1, m2, m3⟩ := parse_wf n true lv b t1 deep z (fun _ => ⟨l1, l2⟩) h2
      refine ⟨m1, m2, ?_⟩
      simp at l3 m3 ⊢
      omega
  | n + 1, true, lv, a, ts, deep, z, ha, h => by
    obtain ⟨ha1, ha2⟩ := ha rfl
    unfold parse at h
    split at h
    · injection h with h; subst h; exact ⟨ha1, ha2, by simp; omega⟩
    · rename_i p hp
      obtain ⟨b, t1, h1, h2⟩ := bnd_ok h
      obtain ⟨l1, l2, l3⟩ := parse_wf n false _ _ _ _ _ (fun h => nomatch h) h1
      have hop : ((p.1 = 4 ∧ p.2 ≤ 3) ∨ (p.1 = 6 ∧ p.2 = 0)) ∧ tw ts.tail + 30 ≤ tw ts := by
        have hl : ∀ c, isT c (hd ts) = true → tw ts.tail + 30 ≤ tw ts := fun c hc => by have := tw_hd (ts := ts) (fun h => isT_live hc (Or.inl h)); omega
        unfold opAt at hp
        split at hp
        · split at hp
          · rename_i hc; injection hp with hp; subst hp; exact ⟨Or.inr ⟨rfl, rfl⟩, hl _ hc⟩
          · cases hp
        · split at hp
          · split at hp
            · rename_i hc; injection hp with hp; subst hp; exact ⟨Or.inl ⟨rfl, by decide⟩, hl _ hc⟩
            · split at hp
              · rename_i hc; injection hp with hp; subst hp; exact ⟨Or.inl ⟨rfl, by decide⟩, hl _ hc⟩
              · cases hp
          · split at hp
            · rename_i hc; injection hp with hp; subst hp; exact ⟨Or.inl ⟨rfl, by decide⟩, hl _ hc⟩
            · split at hp
              · rename_i hc; injection hp with hp; subst hp; exact ⟨Or.inl ⟨rfl, by decide⟩, hl _ hc⟩
              · cases hp
      obtain ⟨hk, htl⟩ := hop
      have hw : wfT (.node 0 0 (nd0 p.1 p.2) a b) := by
        refine ⟨?_, ?_, ?_, ?_, Int.le_refl _, by show (0 : Int) ≤ _; omega, fun _ => ha2, fun _ => l2, ?_, ?_, ha1, l1⟩
        · show p.1 ≤ 6; omega
        · show p.2 ≤ 4; omega
        · intro h; show p.2 ≤ 3; omega
        · intro h; exact absurd (show p.1 = 5 from h) (by omega)
        · intro h; exact absurd (show p.1 ≤ 2 from h) (by omega)
        · intro h; exact absurd (show p.1 = 3 ∨ p.1 = 5 from h) (by omega)
      obtain ⟨m1, m2, m3⟩ := parse_wf n true lv _ t1 deep z (fun _ => ⟨hw, rfl⟩) h2
      refine ⟨m1, m2, ?_⟩
      simp [wT, ownW, cw, nw, nd0] at l3 m3 ⊢
      omega
end Go.Proofs.YtmncdbepjhmkgaaGreatDoor
/- How queries are printed, as plain functions; how long that gets. -/
namespace Go.Proofs.YtmncdbepjhmkgaaGreatDoor
open Go.RowKit LS

def opS (o : Nat) : List UInt8 := [[43], [45], [42], [47]].getD o []
def coreS (a : Nd) (pl pr : Nat → List UInt8) : List UInt8 :=
  if a.kind = 0 then decS a.n.toNat
  else if a.kind = 1 then selS a
  else if a.kind = 2 then overWords.getD a.op [] ++ [40] ++ selS a ++ [91] ++ decS a.n.toNat ++ [93, 41]
  else if a.kind = 3 then [45] ++ pl 4
  else if a.kind = 5 then groupWords.getD a.op [] ++ [32, 98, 121, 32, 40] ++ commas a.by_ ++ [41, 32, 40] ++ pl 1 ++ [41]
  else if a.kind = 6 then pl 1 ++ [32, 111, 114, 32] ++ pr 2
  else pl (tightT a) ++ [32] ++ opS a.op ++ [32] ++ pr (tightT a + 1)
def wrapS (b : Bool) (s : List UInt8) : List UInt8 := if b then [40] ++ s ++ [41] else s
def printT : Tr → Nat → List UInt8
  | .nil, _ => []
  | .node _ _ a l r, must => wrapS (decide (tightT a < must)) (coreS a (printT l) (printT r))
theorem decS_len : ∀ (k n : Nat), n < 10 ^ (k + 1) → (decS n).length ≤ k + 1
  | 0, n, h => by rw [decS_small (by simp at h; omega)]; simp
  | k + 1, n, h => by
    by_cases h9 : n ≤ 9
    · rw [decS_small h9]; simp
    · rw [decS_great h9, List.length_append]
      have := decS_len k (n / 10) (by rw [Nat.pow_succ] at h; omega)
      simp
      omega
theorem commas_cons (a b : List UInt8) (l : List (List UInt8)) : commas (a :: b :: l) = a ++ 44 :: commas (b :: l) := rfl
theorem commas_len : ∀ (l : List (List UInt8)), (commas l).length ≤ nw l
  | [] => Nat.le_refl _
  | [a] => by simp [commas, nw]
  | a :: b :: l => by
    have := commas_len (b :: l)
    rw [commas_cons, List.length_append, List.length_cons]
    simp only [nw] at *
    omega
theorem condS_len (c : List UInt8 × List UInt8 × Bool) : (condS c).length ≤ c.1.length + c.2.1.length + 4 := by
  unfold condS
  split <;> simp <;> omega
theorem nw_conds : ∀ (l : List (List UInt8 × List UInt8 × Bool)), nw (l.map condS) ≤ cw l
  | [] => Nat.le_refl _
  | c :: l => by
    have := nw_conds l
    have := condS_len c
    simp only [List.map_cons, nw, cw]
    omega
theorem selS_len (a : Nd) : (selS a).length ≤ a.name.length + cw a.conds + 2 := by
  unfold selS
  split
  · omega
  · have h1 := commas_len (a.conds.map condS)
    have h2 := nw_conds a.conds
    simp only [List.length_append, List.length_cons, List.length_nil]
    omega
theorem getD_len (ws : List (List UInt8)) (h : ∀ x ∈ ws, x.length ≤ 5) (i : Nat) : (ws.getD i []).length ≤ 5 := by
  rw [List.getD_eq_getElem?_getD]
  cases hi : ws[i]? with
  | none => simp
  | some x => exact h x (List.mem_of_getElem? hi)
theorem coreS_len {a : Nd} (hn : a.n ≤ 1000000000) {pl pr : Nat → List UInt8} {x y : Nat} (hl : ∀ m, (pl m).length ≤ x) (hr : ∀ m, (pr m).length ≤ y) : (coreS a pl pr).length + 2 ≤ ownW a + x + y := by
  have hd : (decS a.n.toNat).length ≤ 10 := decS_len 9 _ (by have : a.n.toNat ≤ 1000000000 := by omega
                                                             have : (10 : Nat) ^ 10 = 10000000000 := by decide
                                                             omega)
  have hs := selS_len a
  have hc := commas_len a.by_
  have ho := getD_len overWords (by decide) a.op
  have hg := getD_len groupWords (by decide) a.op
  have hop := getD_len [[43], [45], [42], [47]] (by decide) a.op
  have l1 := hl 1; have l4 := hl 4; have lt := hl (tightT a)
  have r2 := hr 2; have rt := hr (tightT a + 1)
  unfold coreS ownW
  split
  · omega
  · split
    · omega
    · split
      · simp only [List.length_append, List.length_cons, List.length_nil]; omega
      · split
        · simp only [List.length_append, List.length_cons, List.length_nil]; omega
        · split
          · simp only [List.length_append, List.length_cons, List.length_nil]; omega
          · split
            · simp only [List.length_append, List.length_cons, List.length_nil]; omega
            · unfold opS
              simp only [List.length_append, List.length_cons, List.length_nil]; omega
theorem wrapS_len (b : Bool) (s : List UInt8) : (wrapS b s).length ≤ s.length + 2 := by
  unfold wrapS; split <;> simp <;> omega
theorem printT_len : ∀ (t : Tr) (m : Nat), wfT t → (printT t m).length ≤ wT t
  | .nil, _, _ => Nat.le_refl _
  | .node x y a l r, m, h => by
    have hl := printT_len l
    have hr := printT_len r
    have h1 := coreS_len h.2.2.2.2.2.1 (pl := printT l) (pr := printT r) (x := wT l) (y := wT r) (fun m => hl m h.2.2.2.2.2.2.2.2.2.2.1) (fun m => hr m h.2.2.2.2.2.2.2.2.2.2.2)
    have h2 := wrapS_len (decide (tightT a < m)) (coreS a (printT l) (printT r))
    unfold printT wT
    omega
theorem commas_snoc (l : List (List UInt8)) (a : List UInt8) : commas (l ++ [a]) = (if l.isEmpty then [] else commas l ++ [44]) ++ a := by
  induction l with
  | nil => rfl
  | cons b l ih =>
    cases l with
    | nil => simp [commas]
    | cons c l =>
      have e : commas (b :: c :: l ++ [a]) = b ++ 44 :: commas (c :: l ++ [a]) := rfl
      rw [e, ih]
      simp [commas]
theorem joinTo_commas (ps : List (List UInt8)) : ∀ k, k ≤ ps.length → joinTo ps k = commas (ps.take k)
  | 0, _ => rfl
  | k + 1, h => by
    have hk : k < ps.length := by omega
    rw [joinTo, joinTo_commas ps k (by omega), List.take_succ_eq_append_getElem hk, commas_snoc]
    have e : ps.getD k [] = ps[k] := by simp [hk]
    rw [e]
    by_cases h0 : 0 < k
    · rw [if_pos h0, if_neg (by rw [List.isEmpty_iff]; intro e; have := congrArg List.length e; rw [List.length_take, List.length_nil] at this; omega)]
    · have : k = 0 := by omega
      subst this
      rfl
end Go.Proofs.YtmncdbepjhmkgaaGreatDoor
