/- Parts. -/
import Derived.Test.YtpbemaaghbbocaaGreatDoorA07
import Derived.Test.YtpbemaaghbbocaaGreatDoorA09
import Derived.Deep.RegionHeld3
import Derived.Deep.DrawnRows
namespace Go.Proofs.YtpbemaaghbbocaaGreatDoor
open Go.RowKit LS
def tw : List Tok → Nat
  | [] => 0
  | t :: r => t.txt.length + 30 + tw r
def cw : List (List UInt8 × List UInt8 × Bool) → Nat
  | [] => 0
  | c :: r => c.1.length + c.2.1.length + 6 + cw r
def nw : List (List UInt8) → Nat
  | [] => 0
  | c :: r => c.length + 1 + nw r
def ownW (a : Nd) : Nat := 24 + a.name.length + cw a.conds + nw a.by_
def wT : Tr → Nat
  | .nil => 0
  | .node _ _ a l r => ownW a + wT l + wT r
def isNil : Tr → Bool
  | .nil => true
  | .node _ _ _ _ _ => false
def wfT : Tr → Prop
  | .nil => True
  | .node _ _ a l r => a.kind ≤ 6 ∧ a.op ≤ 4 ∧ (a.kind = 4 → a.op ≤ 3) ∧ (a.kind = 5 → a.op ≤ 3) ∧ 0 ≤ a.n ∧ a.n ≤ 1000000000 ∧ (3 ≤ a.kind → isNil l = false) ∧ (a.kind = 4 ∨ a.kind = 6 → isNil r = false) ∧ (a.kind ≤ 2 → isNil l = true ∧ isNil r = true) ∧ (a.kind = 3 ∨ a.kind = 5 → isNil r = true) ∧ wfT l ∧ wfT r
theorem tw_tail (ts : List Tok) : tw ts.tail ≤ tw ts := by
  cases ts with
  | nil => exact Nat.le_refl _
  | cons t r => show tw r ≤ t.txt.length + 30 + tw r; omega
theorem tw_hd {ts : List Tok} (h : ¬ ((hd ts).kind = 0)) : (hd ts).txt.length + 30 + tw ts.tail = tw ts := by
  cases ts with
  | nil => exact absurd rfl h
  | cons t r => rfl
theorem tw_takeP {c : List UInt8} {ts : List Tok} {z : Unit × List Tok} (h : takeP c ts = .ok z) : tw z.2 + 30 ≤ tw ts := by
  unfold takeP at h
  split at h
  · rename_i e
    injection h with h; subst h
    have := tw_hd (fun h => isT_live e (Or.inl h))
    show tw ts.tail + 30 ≤ tw ts
    omega
  · cases h
theorem tw_kindP {k : Nat} {ts : List Tok} {z : List UInt8 × List Tok} (hk : k ≠ 0) (h : kindP k ts = .ok z) : tw z.2 + z.1.length + 30 = tw ts := by
  unfold kindP at h
  split at h
  · rename_i e
    injection h with h; subst h
    have := tw_hd (ts := ts) (by rw [e]; exact hk)
    show tw ts.tail + (hd ts).txt.length + 30 = tw ts
    omega
  · cases h
theorem cw_append (l m : List (List UInt8 × List UInt8 × Bool)) : cw (l ++ m) = cw l + cw m := by
  induction l with
  | nil => simp [cw]
  | cons a l ih => simp [cw, ih]; omega
theorem nw_append (l m : List (List UInt8)) : nw (l ++ m) = nw l + nw m := by
  induction l with
  | nil => simp [nw]
  | cons a l ih => simp [nw, ih]; omega
theorem tw_listP {α : Type} {item : List Tok → Out α} {close : List UInt8} (f : List α → Nat) (hf : ∀ t z l, item t = .ok z → f (l ++ [z.1]) + tw z.2 ≤ f l + tw t) : ∀ (n : Nat) (acc : List α) (ts : List Tok) (z : List α × List Tok), listP item close n acc ts = .ok z → f z.1 + tw z.2 ≤ f acc + tw ts
  | 0, _, _, _, h => by cases h
  | n + 1, acc, ts, z, h => by
    have h' : (if isT close (hd ts) then .ok (acc, ts.tail) else bnd (if acc.isEmpty then .ok ((), ts) else takeP [44] ts) fun _ r => bnd (item r) fun a r => listP item close n (acc ++ [a]) r) = .ok z := h
    cases hc : isT close (hd ts)
    · rw [hc] at h'
      obtain ⟨_, t1, h1, h2⟩ := bnd_ok (x := if acc.isEmpty then .ok ((), ts) else takeP [44] ts) h'
      obtain ⟨a, t2, h3, h4⟩ := bnd_ok h2
      have l1 : tw t1 ≤ tw ts := by
        split at h1
        · injection h1 with h1; injection h1 with _ h1; subst h1; exact Nat.le_refl _
        · have := tw_takeP h1; simp at this; omega
      have l2 := hf t1 _ acc h3
      have l3 := tw_listP f hf n _ _ _ h4
      simp at l2
      omega
    · rw [hc] at h'
      injection h' with h'; subst h'
      have := tw_tail ts
      show f acc + tw ts.tail ≤ f acc + tw ts
      omega
theorem tw_condP (t : List Tok) (z : (List UInt8 × List UInt8 × Bool) × List Tok) (l : List (List UInt8 × List UInt8 × Bool)) (h : condP t = .ok z) : cw (l ++ [z.1]) + tw z.2 ≤ cw l + tw t := by
  unfold condP at h
  obtain ⟨a, t1, h1, h⟩ := bnd_ok h
  obtain ⟨v, t2, h2, h⟩ := bnd_ok h
  obtain ⟨b, t3, h3, h⟩ := bnd_ok h
  injection h with h; subst h
  have l1 := tw_kindP (by decide) h1
  have l3 := tw_kindP (by decide) h3
  have l2 : tw t2 ≤ tw t1 := by
    unfold signP at h2
    split at h2
    · injection h2 with h2; injection h2 with _ h2; subst h2; exact tw_tail _
    · obtain ⟨_, t4, h4, h5⟩ := bnd_ok h2
      injection h5 with h5; injection h5 with _ h5; subst h5
      have := tw_takeP h4
      simp at this
      omega
  rw [cw_append]
  simp [cw] at *
  omega
theorem tw_selP {ts : List Tok} {z : Nd × List Tok} (h : selP ts = .ok z) : ownW z.1 + 6 + tw z.2 ≤ tw ts ∧ z.1.kind = 1 ∧ z.1.op = 0 ∧ z.1.n = 0 ∧ z.1.by_ = [] := by
  unfold selP at h
  obtain ⟨a, t, h1, h2⟩ := bnd_ok h
  have l1 : tw t + a.length + 30 = tw ts := by
    unfold nameP at h1
    split at h1
    · cases h1
    · exact tw_kindP (by decide) h1
  split at h2
  · obtain ⟨cs, t2, h3, h4⟩ := bnd_ok h2
    injection h4 with h4; subst h4
    have l2 := tw_listP cw tw_condP _ _ _ _ h3
    have l3 := tw_tail t
    refine ⟨?_, rfl, rfl, rfl, rfl⟩
    simp [ownW, cw, nw] at *
    omega
  · injection h2 with h2; subst h2
    refine ⟨?_, rfl, rfl, rfl, rfl⟩
    simp [ownW, cw, nw] at *
    omega
theorem numV_bounds (l : List UInt8) : 0 ≤ numV l ∧ numV l ≤ 1000000000 := by
  unfold numV
  cases h : number 1000000000 l with
  | none => simp
  | some v => have := number_le h; simp; omega
theorem leaf_wf {a : Nd} (hk : a.kind ≤ 2) (ho : a.op ≤ 4) (hn : 0 ≤ a.n ∧ a.n ≤ 1000000000) : wfT (leafT a) :=
  ⟨by omega, ho, by omega, by omega, hn.1, hn.2, by omega, by omega, fun _ => ⟨rfl, rfl⟩, by omega, trivial, trivial⟩
theorem tw_winP {o : Nat} (ho : o ≤ 4) {ts : List Tok} {z : Tr × List Tok} (h : winP o ts = .ok z) : wfT z.1 ∧ isNil z.1 = false ∧ wT z.1 + tw z.2 ≤ tw ts := by
  unfold winP at h
  obtain ⟨_, t1, h1, h⟩ := bnd_ok h
  obtain ⟨p, t2, h2, h⟩ := bnd_ok h
  obtain ⟨_, t3, h3, h⟩ := bnd_ok h
  obtain ⟨m, t4, h4, h⟩ := bnd_ok h
  obtain ⟨_, t5, h5, h⟩ := bnd_ok h
  obtain ⟨_, t6, h6, h⟩ := bnd_ok h
  injection h with h; subst h
  have a1 := tw_takeP h1
  have a2 := tw_selP h2
  have a3 := tw_takeP h3
  have a4 : tw t4 ≤ tw t3 ∧ 1 ≤ m ∧ m ≤ 1000 := by
    unfold sizeP at h4
    split at h4
    · rename_i hh
      injection h4 with h4; injection h4 with h4 h4'; subst h4; subst h4'
      exact ⟨tw_tail _, hh.2, (numI_bounds 1000 _).2⟩
    · cases h4
  have a5 := tw_takeP h5
  have a6 := tw_takeP h6
  refine ⟨leaf_wf (Nat.le_refl 2) ho ⟨by show 0 ≤ m; omega, by show m ≤ _; omega⟩, rfl, ?_⟩
  simp [leafT, wT, ownW, nw] at *
  omega
def InvP (rec : Nat → List Tok → Nat → Out Tr) : Prop := ∀ lv t d z, rec lv t d = .ok z → wfT z.1 ∧ isNil z.1 = false ∧ wT z.1 + tw z.2 ≤ tw t
theorem tw_withinP {rec : Nat → List Tok → Nat → Out Tr} (hr : InvP rec) {ts : List Tok} {deep : Nat} {z : Tr × List Tok} (h : withinP rec ts deep = .ok z) : wfT z.1 ∧ isNil z.1 = false ∧ wT z.1 + tw z.2 ≤ tw ts := by
  unfold withinP at h
  obtain ⟨_, t1, h1, h⟩ := bnd_ok h
  obtain ⟨a, t2, h2, h⟩ := bnd_ok h
  obtain ⟨_, t3, h3, h⟩ := bnd_ok h
  injection h with h; subst h
  have a1 := tw_takeP h1
  obtain ⟨b1, b2, b3⟩ := hr _ _ _ _ h2
  have a3 := tw_takeP h3
  refine ⟨b1, b2, ?_⟩
  simp at *
  omega
theorem tw_groupP {rec : Nat → List Tok → Nat → Out Tr} (hr : InvP rec) {g : Nat} (hg : g ≤ 3) {ts : List Tok} {deep : Nat} {z : Tr × List Tok} (h : groupP rec g ts deep = .ok z) : wfT z.1 ∧ isNil z.1 = false ∧ wT z.1 + tw z.2 ≤ tw ts := by
  unfold groupP at h
  obtain ⟨_, t1, h1, h⟩ := bnd_ok h
  obtain ⟨_, t2, h2, h⟩ := bnd_ok h
  obtain ⟨ns, t3, h3, h⟩ := bnd_ok h
  obtain ⟨a, t4, h4, h⟩ := bnd_ok h
  injection h with h; subst h
  have a1 := tw_takeP h1
  have a2 := tw_takeP h2
  have a3 := tw_listP nw (fun t z l hz => by have := tw_kindP (by decide) hz; rw [nw_append]; simp [nw]; omega) _ _ _ _ h3
  obtain ⟨b1, b2, b3⟩ := tw_withinP hr h4
  refine ⟨⟨by show (5 : Nat) ≤ 6; omega, by show g ≤ 4; omega, fun _ => hg, fun _ => hg, Int.le_refl _, by show (0 : Int) ≤ _; omega, fun _ => b2, fun h => by simp at h, fun h => absurd (show (5 : Nat) ≤ 2 from h) (by omega), fun _ => rfl, b1, trivial⟩, rfl, ?_⟩
  simp [wT, ownW, cw, nw] at *
  omega
theorem idx_small {w : List UInt8} {l : List (List UInt8)} {i : Nat} (h : idx w l = some i) : i < l.length := by
  induction l generalizing i with
  | nil => cases h
  | cons x l ih =>
    unfold idx at h
    split at h
    · injection h with h; subst h; simp
    · cases hi : idx w l with
      | none => rw [hi] at h; cases h
      | some j => rw [hi] at h; injection h with h; subst h; have := ih hi; simp; omega
theorem tw_innerP {rec : Nat → List Tok → Nat → Out Tr} (hr : InvP rec) {ts : List Tok} {deep : Nat} {z : Tr × List Tok} (h : innerP rec ts deep = .ok z) : wfT z.1 ∧ isNil z.1 = false ∧ wT z.1 + tw z.2 ≤ tw ts := by
  unfold innerP at h
  have ht := tw_tail ts
  split at h
  · rename_i hk
    injection h with h; subst h
    have := tw_hd (ts := ts) (by omega)
    refine ⟨leaf_wf (Nat.zero_le _) (Nat.zero_le _) (numV_bounds _), rfl, ?_⟩
    simp [leafT, wT, ownW, cw, nw] at *
    omega
  · split at h
    · rename_i hm
      obtain ⟨a, t1, h1, h⟩ := bnd_ok h
      injection h with h; subst h
      obtain ⟨b1, b2, b3⟩ := hr _ _ _ _ h1
      have := tw_hd (ts := ts) (fun h => isT_live hm (Or.inl h))
      refine ⟨⟨by show (3 : Nat) ≤ 6; omega, Nat.zero_le _, fun _ => Nat.zero_le _, fun _ => Nat.zero_le _, Int.le_refl _, by show (0 : Int) ≤ _; omega, fun _ => b2, fun h => by simp [nd0] at h, fun h => absurd (show (3 : Nat) ≤ 2 from h) (by omega), fun _ => rfl, b1, trivial⟩, rfl, ?_⟩
      simp [wT, ownW, cw, nw, nd0] at *
      omega
    · split at h
      · exact tw_withinP hr h
      · split at h
        · rename_i g hg
          have := idx_small hg
          obtain ⟨b1, b2, b3⟩ := tw_groupP hr (show g ≤ 3 by simp [groupWords] at this; omega) h
          exact ⟨b1, b2, by omega⟩
        · split at h
          · rename_i o ho
            have := idx_small ho
            obtain ⟨b1, b2, b3⟩ := tw_winP (show o ≤ 4 by simp [overWords] at this; omega) h
            exact ⟨b1, b2, by omega⟩
          · obtain ⟨p, t1, h1, h⟩ := bnd_ok h
            injection h with h; subst h
            obtain ⟨a1, a2, a3, a4, a5⟩ := tw_selP h1
            simp only at a1 a2 a3 a4
            refine ⟨leaf_wf (by omega) (by omega) ⟨by omega, by omega⟩, rfl, ?_⟩
            simp [leafT, wT] at *
            omega
theorem parse_wf : ∀ (n : Nat) (m : Bool) (lv : Nat) (a : Tr) (ts : List Tok) (deep : Nat) (z : Tr × List Tok), (m = true → wfT a ∧ isNil a = false) → parse n m lv a ts deep = .ok z → wfT z.1 ∧ isNil z.1 = false ∧ wT z.1 + tw z.2 ≤ tw ts + (if m then wT a else 0)
  | 0, _, _, _, _, _, _, _, h => by cases h
  | n + 1, false, lv, a, ts, deep, z, _, h => by
    have hr : InvP (fun lv t d => parse n false lv .nil t d) := fun lv t d z h => by
      obtain ⟨h1, h2, h3⟩ := parse_wf n false lv .nil t d z (fun h => nomatch h) h
      exact ⟨h1, h2, by simpa using h3⟩
    unfold parse at h
    split at h
    · unfold factorP at h
      split at h
      · split at h
        · cases h
        · obtain ⟨h1, h2, h3⟩ := tw_innerP hr h
          exact ⟨h1, h2, by simpa using h3⟩
      · cases h
    · obtain ⟨b, t1, h1, h2⟩ := bnd_ok h
      obtain ⟨l1, l2, l3⟩ := hr _ _ _ _ h1
      obtain ⟨m1, m2, m3⟩ := parse_wf n true lv b t1 deep z (fun _ => ⟨l1, l2⟩) h2
      refine ⟨m1, m2, ?_⟩
      simp at l3 m3 ⊢
      omega
  | n + 1, true, lv, a, ts, deep, z, ha, h => by
    obtain ⟨ha1, ha2⟩ := ha rfl
    unfold parse at h
    split at h
    · injection h with h; subst h; exact ⟨ha1, ha2, by simp; omega⟩
    · rename_i p hp
      obtain ⟨b, t1, h1, h2⟩ := bnd_ok h
      obtain ⟨l1, l2, l3⟩ := parse_wf n false _ _ _ _ _ (fun h => nomatch h) h1
      have hop : ((p.1 = 4 ∧ p.2 ≤ 3) ∨ (p.1 = 6 ∧ p.2 = 0)) ∧ tw ts.tail + 30 ≤ tw ts := by
        have hl : ∀ c, isT c (hd ts) = true → tw ts.tail + 30 ≤ tw ts := fun c hc => by have := tw_hd (ts := ts) (fun h => isT_live hc (Or.inl h)); omega
        unfold LS.opAt at hp
        split at hp
        · split at hp
          · rename_i hc; injection hp with hp; subst hp; exact ⟨Or.inr ⟨rfl, rfl⟩, hl _ hc⟩
          · cases hp
        · split at hp
          · split at hp
            · rename_i hc; injection hp with hp; subst hp; exact ⟨Or.inl ⟨rfl, by decide⟩, hl _ hc⟩
            · split at hp
              · rename_i hc; injection hp with hp; subst hp; exact ⟨Or.inl ⟨rfl, by decide⟩, hl _ hc⟩
              · cases hp
          · split at hp
            · rename_i hc; injection hp with hp; subst hp; exact ⟨Or.inl ⟨rfl, by decide⟩, hl _ hc⟩
            · split at hp
              · rename_i hc; injection hp with hp; subst hp; exact ⟨Or.inl ⟨rfl, by decide⟩, hl _ hc⟩
              · cases hp
      obtain ⟨hk, htl⟩ := hop
      have hw : wfT (.node 0 0 (nd0 p.1 p.2) a b) := by
        refine ⟨?_, ?_, ?_, ?_, Int.le_refl _, by show (0 : Int) ≤ _; omega, fun _ => ha2, fun _ => l2, ?_, ?_, ha1, l1⟩
        · show p.1 ≤ 6; omega
        · show p.2 ≤ 4; omega
        · intro h; show p.2 ≤ 3; omega
        · intro h; exact absurd (show p.1 = 5 from h) (by omega)
        · intro h; exact absurd (show p.1 ≤ 2 from h) (by omega)
        · intro h; exact absurd (show p.1 = 3 ∨ p.1 = 5 from h) (by omega)
      obtain ⟨m1, m2, m3⟩ := parse_wf n true lv _ t1 deep z (fun _ => ⟨hw, rfl⟩) h2
      refine ⟨m1, m2, ?_⟩
      simp [wT, ownW, cw, nw, nd0] at l3 m3 ⊢
      omega
def opNo (a : Nd) : Nat := if a.kind = 6 then 0 else a.op + 1
def PartV (w : World) : Tr → Value → Prop
  | .nil, _ => False
  | .node _ _ a l r, v =>
    (a.kind = 0 ∧ v = .iface 152 (.agg #[.int .i64 a.n])) ∨
    (a.kind = 1 ∧ ∃ (nm : ByteArray) (la : Option Addr) (ln lc : Nat), v = .iface 179 (.agg #[.string nm, .slice la ln lc]) ∧ bl nm = a.name ∧ CondsV w (.slice la ln lc) a.conds) ∨
    (a.kind = 2 ∧ ∃ (wd nm : ByteArray) (la : Option Addr) (ln lc : Nat), v = .iface 181 (.agg #[.string wd, .string nm, .slice la ln lc, .int .i64 a.n]) ∧ bl wd = overWords.getD a.op [] ∧ bl nm = a.name ∧ CondsV w (.slice la ln lc) a.conds) ∨
    (a.kind = 3 ∧ ∃ x, v = .iface 154 (.agg #[x]) ∧ PartV w l x) ∨
    (a.kind = 5 ∧ ∃ (wd : ByteArray) (la : Option Addr) (ln lc : Nat) (x : Value), v = .iface 156 (.agg #[.string wd, .slice la ln lc, x]) ∧ bl wd = groupWords.getD a.op [] ∧ NamesV w (.slice la ln lc) a.by_ ∧ PartV w l x) ∨
    ((a.kind = 4 ∨ a.kind = 6) ∧ ∃ x y, v = .iface 149 (.agg #[.int .i64 (opNo a), x, y]) ∧ PartV w l x ∧ PartV w r y)
def IfaceV (v : Value) : Prop := v = .nilIface ∨ ∃ (ty : TypeId) (u : Value), v = .iface ty u
theorem PartV.shape {w : World} : ∀ {t : Tr} {v : Value}, PartV w t v → ∃ (ty : TypeId) (u : Value), v = .iface ty u
  | .nil, _, h => h.elim
  | .node _ _ a l r, v, h => by
    rcases h with ⟨_, h⟩ | ⟨_, _, _, _, _, h, _⟩ | ⟨_, _, _, _, _, _, h, _⟩ | ⟨_, _, h, _⟩ | ⟨_, _, _, _, _, _, h, _⟩ | ⟨_, _, _, h, _⟩
    all_goals exact ⟨_, _, h⟩
theorem CondsV.below {w w' : World} {v : Value} {ns : List (List UInt8 × List UInt8 × Bool)} (h : CondsV w v ns) (hb : Below w.heap.size w w') : CondsV w' v ns := by
  obtain ⟨bs, h1, h2⟩ := h; exact ⟨bs, own_below h1 hb, h2⟩
theorem NamesV.below {w w' : World} {v : Value} {ns : List (List UInt8)} (h : NamesV w v ns) (hb : Below w.heap.size w w') : NamesV w' v ns := by
  obtain ⟨bs, h1, h2⟩ := h; exact ⟨bs, own_below h1 hb, h2⟩
theorem PartV.mono {w w' : World} (hc : ∀ v cs, CondsV w v cs → CondsV w' v cs) (hn : ∀ v ns, NamesV w v ns → NamesV w' v ns) : ∀ (t : Tr) (v : Value), PartV w t v → PartV w' t v
  | .nil, _, h => h
  | .node _ _ a l r, v, h => by
    have ihl := PartV.mono hc hn l
    have ihr := PartV.mono hc hn r
    rcases h with h | ⟨h1, nm, la, ln, lc, h2, h3, h4⟩ | ⟨h1, wd, nm, la, ln, lc, h2, h3, h4, h5⟩ | ⟨h1, x, h2, h3⟩ | ⟨h1, wd, la, ln, lc, x, h2, h3, h4, h5⟩ | ⟨h1, x, y, h2, h3, h4⟩
    · exact Or.inl h
    · exact Or.inr (Or.inl ⟨h1, nm, la, ln, lc, h2, h3, hc _ _ h4⟩)
    · exact Or.inr (Or.inr (Or.inl ⟨h1, wd, nm, la, ln, lc, h2, h3, h4, hc _ _ h5⟩))
    · exact Or.inr (Or.inr (Or.inr (Or.inl ⟨h1, x, h2, ihl x h3⟩)))
    · exact Or.inr (Or.inr (Or.inr (Or.inr (Or.inl ⟨h1, wd, la, ln, lc, x, h2, h3, hn _ _ h4, ihl x h5⟩))))
    · exact Or.inr (Or.inr (Or.inr (Or.inr (Or.inr ⟨h1, x, y, h2, ihl x h3, ihr y h4⟩))))
theorem PartV.below {w w' : World} {t : Tr} {v : Value} (h : PartV w t v) (hb : Below w.heap.size w w') : PartV w' t v := PartV.mono (fun _ _ h => h.below hb) (fun _ _ h => h.below hb) t v h
theorem PartV.kept {w w' : World} {t : Tr} {v : Value} (h : PartV w t v) {b : Nat} (hg : w.grownBy w' (some b)) {c : Array Value} {ty : TypeId} {fr : Nat × Nat} (hq : w.heap[b]? = some (.cells c ty fr)) (h1 : ty ≠ 247) (h2 : ty ≠ 9) : PartV w' t v :=
  PartV.mono (fun _ _ h => h.kept hg hq h1) (fun _ _ h => h.kept hg hq h2) t v h
theorem PartV.read {w w' : World} {R : RS} {k : Nat} {ts : List Tok} {t : Tr} {v : Value} (h : PartV w t v) (hr : RK w R k ts) (hg : w.grownBy w' (some R.b)) : PartV w' t v := h.kept hg hr.rd.cells (by decide) (by decide)
theorem CondsV.read {w w' : World} {R : RS} {k : Nat} {ts : List Tok} {v : Value} {cs : List (List UInt8 × List UInt8 × Bool)} (h : CondsV w v cs) (hr : RK w R k ts) (hg : w.grownBy w' (some R.b)) : CondsV w' v cs := h.kept hg hr.rd.cells (by decide)
theorem NamesV.read {w w' : World} {R : RS} {k : Nat} {ts : List Tok} {v : Value} {cs : List (List UInt8)} (h : NamesV w v cs) (hr : RK w R k ts) (hg : w.grownBy w' (some R.b)) : NamesV w' v cs := h.kept hg hr.rd.cells (by decide)
theorem Res.err {α : Type} {R : RS} {V : World → α → Prop} {w : World} {r : Out α} {v : Value} (h : Res R V w r v) {e : Nat × Nat} (hr : r = .error e) : ErrIs w R e v := by subst hr; exact h
theorem Res.good {α : Type} {R : RS} {V : World → α → Prop} {w : World} {r : Out α} {v : Value} (h : Res R V w r v) {a : α} {ts : List Tok} (hr : r = .ok (a, ts)) : v = .nilIface ∧ (∃ k, RK w R k ts) ∧ V w a := by subst hr; exact h
attribute [local go_sem ↓] Go.wp_at_zero Go.wp_at_succ
theorem size_num (l : List UInt8) : (1 ≤ numI 1000 l ↔ 1 ≤ numV l ∧ numV l ≤ 1000) ∧ (1 ≤ numI 1000 l → numI 1000 l = numV l) := by
  unfold numI numV number
  by_cases hc : l.length < 1 ∨ (l.head? = some 48 ∧ 1 < l.length) ∨ l.all digit = false
  · rw [if_pos (by rcases hc with h | h | h; exact Or.inl h; exact Or.inr (Or.inl h); exact Or.inr (Or.inr (Or.inl h)))]
    rw [if_pos (by rcases hc with h | h | h; exact Or.inl h; exact Or.inr (Or.inl h); exact Or.inr (Or.inr (Or.inl h)))]
    simp
  · have hn : ∀ most, most < val l → (l.length < 1 ∨ (l.head? = some 48 ∧ 1 < l.length) ∨ l.all digit = false ∨ most < val l) := fun _ h => Or.inr (Or.inr (Or.inr h))
    have hp : ∀ most, ¬ most < val l → ¬ (l.length < 1 ∨ (l.head? = some 48 ∧ 1 < l.length) ∨ l.all digit = false ∨ most < val l) := by
      rintro most h (h1 | h1 | h1 | h1)
      · exact hc (Or.inl h1)
      · exact hc (Or.inr (Or.inl h1))
      · exact hc (Or.inr (Or.inr h1))
      · exact h h1
    by_cases h1 : 1000 < val l
    · rw [if_pos (hn _ h1)]
      by_cases h2 : 1000000000 < val l
      · rw [if_pos (hn _ h2)]; simp
      · rw [if_neg (hp _ h2)]
        simp only [Option.getD_some]
        constructor
        · constructor
          · intro h; omega
          · intro h; omega
        · intro h; omega
    · rw [if_neg (hp _ h1), if_neg (hp _ (by omega))]
      simp only [Option.getD_some]
      constructor
      · constructor
        · intro h; omega
        · intro h; omega
      · intro _; trivial
def lenP (ts : List Tok) : Out Int := bnd (takeP [91] ts) fun _ r => bnd (sizeP r) fun n r => bnd (takeP [93] r) fun _ r => .ok (n, r)
theorem winP_via (o : Nat) (ts : List Tok) : winP o ts = bnd (takeP [40] ts) fun _ r => bnd (selP r) fun p r => bnd (lenP r) fun n r => bnd (takeP [41] r) fun _ r => .ok (leafT ⟨2, o, n, p.name, p.conds, []⟩, r) := by
  unfold winP lenP
  cases h1 : takeP [40] ts with
  | error e => rfl
  | ok p1 =>
    obtain ⟨a1, r1⟩ := p1
    simp only [bnd]
    cases h2 : selP r1 with
    | error e => rfl
    | ok p2 =>
      obtain ⟨a2, r2⟩ := p2
      simp only
      cases h3 : takeP [91] r2 with
      | error e => rfl
      | ok p3 =>
        obtain ⟨a3, r3⟩ := p3
        simp only
        cases h4 : sizeP r3 with
        | error e => rfl
        | ok p4 =>
          obtain ⟨a4, r4⟩ := p4
          simp only
          cases h5 : takeP [93] r4 with
          | error e => rfl
          | ok p5 => rfl
theorem takeP_cases (s : List UInt8) (ts : List Tok) : (isT s (hd ts) = true ∧ takeP s ts = .ok ((), ts.tail)) ∨ (¬ isT s (hd ts) = true ∧ takeP s ts = .error (2, (hd ts).at_)) := by
  by_cases h : isT s (hd ts) = true
  · exact Or.inl ⟨h, takeP_pos h⟩
  · exact Or.inr ⟨h, takeP_neg h⟩
set_option maxRecDepth 100000 in
set_option maxHeartbeats 4000000 in
theorem windowLength_t {w : World} {R : RS} {k : Nat} {ts : List Tok} (h : RK w R k ts) :
    Calls Tryz.prog 156 #[.pointer (some ⟨R.b, 0, none⟩)] w fun e w' => ∃ (n : Int) (v : Value), e = .returned (.tuple #[.int .i64 n, v]) ∧ Hid (Res R (fun _ m => n = m) w' (lenP ts) v) ∧ w.grownBy w' (some R.b) := by
  have H : Hid (RK w R k ts) := h
  have hbl : R.b < w.heap.size := (Array.getElem?_eq_some_iff.1 h.rd.cells).1
  clear h
  go_enter Tryz.func156, Tryz.ntmps156
  go_wp2_with fail
  refine (takeMark_t H.out ⟨#[91]⟩ (by decide) (by decide)).mono ?_
  rintro e w1 ⟨v, rfl, hres, hg⟩
  have HG1 : Hid (w.grownBy w1 (some R.b)) := hg
  clear hg
  rcases takeP_cases [91] ts with ⟨h1, htp⟩ | ⟨h1, htp⟩
  · obtain ⟨rfl, ⟨k1, hk1⟩, _⟩ := hres.out.good htp
    have HK1 : Hid (RK w1 R k1 ts.tail) := hk1
    have HP1 : Hid (lenP ts = bnd (sizeP ts.tail) fun n r => bnd (takeP [93] r) fun _ r => .ok (n, r)) := hid (by unfold lenP; rw [htp]; rfl)
    clear hres hk1 h1 htp
    go_wp2_with fail
    refine (token_t HK1.out).mono ?_
    rintro e w2 ⟨⟨kd, at_, tx, tv⟩, rfl, ht, hb2⟩
    have HG2 : Hid (w.grownBy w2 (some R.b)) := grown_trans HG1.out (grown_of_below hb2)
    have HK2 : Hid (RK w2 R k1 ts.tail) := HK1.out.below hb2
    clear hb2 HG1 HK1
    go_upto_region 5 with fail
    refine wp_gen fun W6 hW6 => ?_
    have hb6 : Below w2.heap.size w2 W6 := by rw [hW6]; exact (Below.refl _ _).alloc (Nat.le_refl _) _
    have HT7 : Hid (BAt W6 w2.heap.size [.int .i64 kd, .int .i64 at_, .string tx, .int .i64 tv] 87) := hid (by rw [hW6]; exact Go.Deep.blk_alloc_new _ _)
    have HG7 : Hid (w.grownBy W6 (some R.b)) := grown_trans HG2.out (grown_of_below hb6)
    have HK7 : Hid (RK W6 R k1 ts.tail) := HK2.out.below hb6
    have hz2 : R.b < w2.heap.size := by have := HG2.out.size; omega
    clear hW6 hb6 HK2 HG2
    have t0 := HT7.out.cell 0
    have t3 := HT7.out.cell 3
    simp only [List.getElem?_cons_zero, List.getElem?_cons_succ] at t0 t3
    have hsn := size_num (hd ts.tail).txt
    by_cases hk1 : (hd ts.tail).kind = 1
    · have hkd : kd = 0 := by have := ht.out.1; rw [hk1] at this; exact this
      subst hkd
      have htv : (tv : Int) = numV (hd ts.tail).txt := ht.out.2.2.2 hk1
      by_cases hn : 1 ≤ numI 1000 (hd ts.tail).txt
      · have hv := hsn.1.1 hn
        rw [← htv] at hv
        have hv1 := hv.1
        have hv2 := hv.2
        have HSP : Hid (sizeP ts.tail = .ok ((tv : Int), ts.tail.tail)) := hid (by unfold sizeP; rw [if_pos ⟨hk1, hn⟩, hsn.2 hn, ← htv])
        have HD : Hid (¬ ((hd ts.tail).kind = 0 ∨ (hd ts.tail).kind = 5)) := hid (by omega)
        obtain ⟨rc0, rc1, rfz, rcx⟩ := HK7.out.rd.all
        have hlt := HK7.out.lt
        have hln := HK7.out.len
        clear hn hsn htv hv hk1 ht
        go_upto_region 8 with fail
        refine wp_gen fun W8 hW8 => ?_
        have HK8 : Hid (RK W8 R (k1 + 1) ts.tail.tail) := hid (by rw [hW8]; exact HK7.out.step HD.out)
        have HG8 : Hid (w.grownBy W8 (some R.b)) := hid (by rw [hW8]; exact grown_set HG7.out (Or.inl rfl) _)
        have HT8 : Hid (BAt W8 w2.heap.size [.int .i64 (0 : Nat), .int .i64 at_, .string tx, .int .i64 tv] 87) := hid (by rw [hW8]; exact HT7.out.other (by show w2.heap.size ≠ R.b; omega) _)
        clear hW8 rc0 rc1 rfz rcx t0 t3 HT7 HK7 HG7
        have e3 := HT8.out.cell 3
        simp only [List.getElem?_cons_zero, List.getElem?_cons_succ] at e3
        have HK8d : Hid (RK W8.drew R (k1 + 1) ts.tail.tail) := HK8.out.below ((Below.refl _ _).drew)
        have HG8d : Hid (w.grownBy W8.drew (some R.b)) := grown_trans HG8.out (grown_of_below ((Below.refl _ _).drew))
        go_region_held3 (fun w' => w'.cell? ⟨w2.heap.size, 3, none⟩ = some (.int .i64 tv)) (first | exact e9 | exact e3 | go_keep) (first
          | (go_at_call 152
             refine (takeMark_t HK8d.out ⟨#[93]⟩ (by decide) (by decide)).mono ?_
             rintro e w9 ⟨v, rfl, hres, hg9⟩
             have e9 : w9.cell? ⟨w2.heap.size, 3, none⟩ = some (.int .i64 tv) := (World.cell?_of_block (a := ⟨w2.heap.size, 3, none⟩) (hg9.block _ (World.block_lt_of_cell? _ _ e3) (by simp; omega))).trans e3
             have HG9 : Hid (w.grownBy w9 (some R.b)) := grown_trans HG8d.out hg9
             clear hg9))
        all_goals
          go_wp2
          go_ret2
          refine ⟨_, _, rfl, ?_, HG9.out⟩
          rw [HP1.out, HSP.out]
          show Hid (Res R _ _ (bnd (takeP [93] ts.tail.tail) _) _)
          rcases takeP_cases [93] ts.tail.tail with ⟨_, htp⟩ | ⟨_, htp⟩
          · obtain ⟨h1, h2, _⟩ := hres.out.good htp
            rw [htp]
            exact ⟨h1, h2, rfl⟩
          · have := hres.out.err htp
            rw [htp]
            exact this
      · have HPE : Hid (lenP ts = .error (2, (hd ts.tail).at_)) := hid (by rw [HP1.out]; unfold sizeP; rw [if_neg (fun h => hn h.2)]; rfl)
        have hv : (tv : Int) < 1 ∨ 1000 < (tv : Int) := by
          rw [htv]
          by_cases h1 : 1 ≤ numV (hd ts.tail).txt ∧ numV (hd ts.tail).txt ≤ 1000
          · exact absurd (hsn.1.2 h1) hn
          · omega
        clear hn hsn htv hk1 ht
        by_cases hv1 : (tv : Int) < 1
        all_goals
          have hv2 : ¬ (tv : Int) < 1 → 1000 < (tv : Int) := by omega
          clear hv
          try have hv3 := hv2 hv1
          clear hv2
          go_wp2_with fail
          refine (cannotStand_t HK7.out).mono ?_
          rintro e wE ⟨v, rfl, HE, hbE⟩
          obtain ⟨fa, rfl⟩ := HE.out.shape
          have HGE : Hid (w.grownBy wE (some R.b)) := grown_trans HG7.out (grown_of_below hbE)
          clear hbE
          go_wp2
          go_ret2
          exact ⟨_, _, rfl, by rw [HPE.out]; exact HE, HGE.out⟩
    · have hkd : ((kd : Int) != 0) = true := by
        rw [bne_iff_ne]; intro e
        exact hk1 ((pk_mark HK7.out.wf.head.2.2).2.2.2.1.1 (by have := ht.out.1; simp only at this; omega))
      have HPE : Hid (lenP ts = .error (2, (hd ts.tail).at_)) := hid (by rw [HP1.out]; unfold sizeP; rw [if_neg (fun h => hk1 h.1)]; rfl)
      clear hsn ht hk1
      go_wp2_with fail
      refine (cannotStand_t HK7.out).mono ?_
      rintro e wE ⟨v, rfl, HE, hbE⟩
      obtain ⟨fa, rfl⟩ := HE.out.shape
      have HGE : Hid (w.grownBy wE (some R.b)) := grown_trans HG7.out (grown_of_below hbE)
      clear hbE
      go_wp2
      go_ret2
      exact ⟨_, _, rfl, by rw [HPE.out]; exact HE, HGE.out⟩
  · have HPE : Hid (lenP ts = .error (2, (hd ts).at_)) := hid (by unfold lenP; rw [htp]; rfl)
    have HE := hid (hres.out.err htp)
    obtain ⟨fa, rfl⟩ := HE.out.shape
    clear hres htp h1
    go_wp2
    go_ret2
    exact ⟨_, _, rfl, by rw [HPE.out]; exact HE, HG1.out⟩
end Go.Proofs.YtpbemaaghbbocaaGreatDoor
