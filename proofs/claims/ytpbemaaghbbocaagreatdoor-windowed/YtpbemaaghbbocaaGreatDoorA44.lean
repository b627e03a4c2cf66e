/- Parts. -/
import Derived.Test.YtpbemaaghbbocaaGreatDoorA43
namespace Go.Proofs.YtpbemaaghbbocaaGreatDoor
open Go.RowKit LS
def tightN : Tr → Nat
  | .nil => 4
  | .node _ _ a _ _ => tightT a
def brk (t : Tr) (must : Nat) : Nat := if tightN t < must then 1 else 0
def needR : Tr → Nat
  | .nil => 0
  | .node _ _ a l r => if a.kind ≤ 2 then 1 else if a.kind = 3 then 1 + (brk l 4 + needR l) else if a.kind = 5 then 1 + (brk l 1 + needR l) else max (brk l (tightT a) + needR l) (brk r (tightT a + 1) + needR r)
def nd (t : Tr) (must : Nat) : Nat := brk t must + needR t
theorem nd_up (t : Tr) (m : Nat) : nd t m ≤ nd t (m + 1) := by
  unfold nd brk
  split
  · rw [if_pos (by omega)]; omega
  · split <;> omega
theorem nd_brk (t : Tr) (m : Nat) : nd t m ≤ 1 + nd t 1 := by
  unfold nd brk
  split <;> split <;> omega
def TokOk (x : Tok) : Prop := (x.kind = 1 → (number 1000000000 x.txt).isSome = true) ∧ (x.kind = 2 → isName x.txt = true) ∧ (x.kind = 3 → isWord x.txt = true)
theorem run_allA (p : UInt8 → Bool) : ∀ l : List UInt8, (l.take (run p l)).all p = true
  | [] => rfl
  | c :: l => by
    rw [run]
    split
    · rename_i h
      rw [List.take_succ_cons, List.all_cons, h, run_allA p l]; rfl
    · rfl
theorem tok1 {x : List UInt8} {j : Nat} (h : (number 1000000000 x).isSome = true) : TokOk ⟨1, x, j⟩ := ⟨fun _ => h, fun h => absurd (show (1 : Nat) = 2 from h) (by decide), fun h => absurd (show (1 : Nat) = 3 from h) (by decide)⟩
theorem tok2 {x : List UInt8} {j : Nat} (h : isName x = true) : TokOk ⟨2, x, j⟩ := ⟨fun h => absurd (show (2 : Nat) = 1 from h) (by decide), fun _ => h, fun h => absurd (show (2 : Nat) = 3 from h) (by decide)⟩
theorem tok3 {x : List UInt8} {j : Nat} (h : isWord x = true) : TokOk ⟨3, x, j⟩ := ⟨fun h => absurd (show (3 : Nat) = 1 from h) (by decide), fun h => absurd (show (3 : Nat) = 2 from h) (by decide), fun _ => h⟩
theorem tok0 {k : Nat} {x : List UInt8} {j : Nat} (h1 : k ≠ 1) (h2 : k ≠ 2) (h3 : k ≠ 3) : TokOk ⟨k, x, j⟩ := ⟨fun h => absurd h h1, fun h => absurd h h2, fun h => absurd h h3⟩
theorem lexC_ok (l : List UInt8) (j : Nat) (c : UInt8) (r : List UInt8) : TokOk (lexC l j c r).1 := by
  unfold lexC
  split
  · split
    · rename_i h; exact tok1 h
    · exact tok0 (by decide) (by decide) (by decide)
  · split
    · rename_i hl
      split
      · exact tok0 (by decide) (by decide) (by decide)
      · rename_i h8
        refine tok2 ?_
        have h1 := run_allA letter (c :: r)
        have h2 := run_le letter (c :: r)
        have h3 : 1 ≤ run letter (c :: r) := by rw [run, if_pos hl]; omega
        unfold isName
        rw [Bool.and_eq_true, Bool.and_eq_true, decide_eq_true_eq, decide_eq_true_eq]
        have h4 : ((c :: r).take (run letter (c :: r))).length = run letter (c :: r) := by rw [List.length_take]; omega
        refine ⟨h1, ?_, ?_⟩
        · show (1 : Int) ≤ (((c :: r).take (run letter (c :: r))).length : Int)
          rw [h4]; omega
        · show (((c :: r).take (run letter (c :: r))).length : Int) ≤ 8
          rw [h4]; omega
    · split
      · split
        · exact tok0 (by decide) (by decide) (by decide)
        · split
          · rename_i h; exact tok3 h
          · exact tok0 (by decide) (by decide) (by decide)
      · split
        · exact tok0 (by decide) (by decide) (by decide)
        · split
          · exact tok0 (by decide) (by decide) (by decide)
          · exact tok0 (by decide) (by decide) (by decide)
theorem lexAt_ok (l : List UInt8) (i : Nat) : TokOk (lexAt l i).1 := by
  unfold lexAt lexJ
  split
  · exact tok0 (by decide) (by decide) (by decide)
  · exact lexC_ok _ _ _ _
def AllOk (ts : List Tok) : Prop := ∀ x ∈ ts, TokOk x
theorem lexAll_ok (l : List UInt8) : ∀ (n i : Nat), AllOk (lexAll l n i)
  | 0, _ => fun x hx => by cases hx
  | n + 1, i => by
    rw [lexAll]
    split
    · intro x hx; rw [List.mem_singleton] at hx; subst hx; exact lexAt_ok l i
    · intro x hx
      rcases List.mem_cons.1 hx with rfl | hx
      · exact lexAt_ok l i
      · exact lexAll_ok l n _ x hx
theorem AllOk.tail {ts : List Tok} (h : AllOk ts) : AllOk ts.tail := fun x hx => h x (List.mem_of_mem_tail hx)
theorem AllOk.hd {ts : List Tok} (h : AllOk ts) : TokOk (hd ts) := by
  cases ts with
  | nil => exact tok0 (by decide) (by decide) (by decide)
  | cons t r => exact h t (List.mem_cons_self ..)
theorem takeP_ok {s : List UInt8} {ts : List Tok} {z : Unit × List Tok} (h : takeP s ts = .ok z) (hk : AllOk ts) : AllOk z.2 := by
  unfold takeP at h
  split at h
  · injection h with h; subst h; exact hk.tail
  · cases h
theorem kindP_ok {k : Nat} {ts : List Tok} {z : List UInt8 × List Tok} (h : kindP k ts = .ok z) (hk : AllOk ts) : AllOk z.2 ∧ (hd ts).kind = k ∧ z.1 = (hd ts).txt := by
  unfold kindP at h
  split at h
  · rename_i e; injection h with h; subst h; exact ⟨hk.tail, e, rfl⟩
  · cases h
theorem listP_ok {α : Type} {item : List Tok → Out α} {close : List UInt8} (ok : α → Prop) (hi : ∀ t z, AllOk t → item t = .ok z → AllOk z.2 ∧ ok z.1) : ∀ (n : Nat) (acc : List α) (ts : List Tok) (z : List α × List Tok), (∀ a ∈ acc, ok a) → AllOk ts → listP item close n acc ts = .ok z → AllOk z.2 ∧ ∀ a ∈ z.1, ok a
  | 0, _, _, _, _, _, h => by cases h
  | n + 1, acc, ts, z, ha, hk, h => by
    have h' : (if isT close (hd ts) then .ok (acc, ts.tail) else bnd (if acc.isEmpty then .ok ((), ts) else takeP [44] ts) fun _ r => bnd (item r) fun a r => listP item close n (acc ++ [a]) r) = .ok z := h
    cases hc : isT close (hd ts)
    · rw [hc] at h'
      obtain ⟨_, t1, h1, h2⟩ := bnd_ok (x := if acc.isEmpty then .ok ((), ts) else takeP [44] ts) h'
      obtain ⟨a, t2, h3, h4⟩ := bnd_ok h2
      have k1 : AllOk t1 := by
        split at h1
        · injection h1 with h1; injection h1 with _ h1; subst h1; exact hk
        · exact takeP_ok h1 hk
      have k2 := hi t1 _ k1 h3
      refine listP_ok ok hi n _ _ _ (fun x hx => ?_) k2.1 h4
      rcases List.mem_append.1 hx with hx | hx
      · exact ha x hx
      · rw [List.mem_singleton] at hx; subst hx; exact k2.2
    · rw [hc] at h'
      injection h' with h'; subst h'
      exact ⟨hk.tail, ha⟩
theorem condP_ok (t : List Tok) (z : Cnd × List Tok) (hk : AllOk t) (h : condP t = .ok z) : AllOk z.2 ∧ cndOk z.1 := by
  unfold condP at h
  obtain ⟨a, t1, h1, h⟩ := bnd_ok h
  obtain ⟨v, t2, h2, h⟩ := bnd_ok h
  obtain ⟨b, t3, h3, h⟩ := bnd_ok h
  injection h with h; subst h
  obtain ⟨k1, e1, e2⟩ := kindP_ok h1 hk
  have k2 : AllOk t2 := by
    unfold signP at h2
    split at h2
    · injection h2 with h2; injection h2 with _ h2; subst h2; exact k1.tail
    · obtain ⟨_, t4, h4, h5⟩ := bnd_ok h2
      injection h5 with h5; injection h5 with _ h5; subst h5
      exact takeP_ok h4 k1
  obtain ⟨k3, e3, e4⟩ := kindP_ok h3 k2
  refine ⟨k3, ?_, ?_⟩
  · show isName a = true
    rw [show a = (hd t).txt from e2]; exact hk.hd.2.1 e1
  · show isWord b = true
    rw [show b = (hd t2).txt from e4]; exact k2.hd.2.2 e3
theorem selP_ok {ts : List Tok} {z : Nd × List Tok} (hk : AllOk ts) (h : selP ts = .ok z) : AllOk z.2 ∧ selOk z.1.name z.1.conds ∧ z.1 = ⟨1, 0, 0, z.1.name, z.1.conds, []⟩ := by
  unfold selP at h
  obtain ⟨a, t, h1, h2⟩ := bnd_ok h
  have g : AllOk t ∧ isName a = true ∧ idx a groupWords = none ∧ idx a overWords = none ∧ a ≠ wOr ∧ a ≠ wBy := by
    unfold nameP at h1
    split at h1
    · cases h1
    · rename_i hr
      obtain ⟨k1, e1, e2⟩ := kindP_ok h1 hk
      simp only at e2
      subst e2
      unfold reserved isT at hr
      simp only [Bool.or_eq_true, Bool.and_eq_true, beq_iff_eq, not_or, not_and, e1] at hr
      refine ⟨k1, hk.hd.2.1 e1, ?_, ?_, ?_, ?_⟩
      · simpa using hr.1.1.1
      · simpa using hr.1.1.2
      · exact hr.1.2 (Or.inl trivial)
      · exact hr.2 (Or.inl trivial)
  obtain ⟨kt, g1, g2, g3, g4, g5⟩ := g
  split at h2
  · obtain ⟨cs, t2, h3, h4⟩ := bnd_ok h2
    injection h4 with h4; subst h4
    have l2 := listP_ok cndOk condP_ok _ _ _ _ (by simp) kt.tail h3
    exact ⟨l2.1, ⟨g1, g2, g3, g4, g5, l2.2⟩, rfl⟩
  · injection h2 with h2; subst h2
    exact ⟨kt, ⟨g1, g2, g3, g4, g5, by simp⟩, rfl⟩
theorem winP_ok {o : Nat} (ho : o < 5) {ts : List Tok} {z : Tr × List Tok} (hk : AllOk ts) (h : winP o ts = .ok z) : GT z.1 ∧ needR z.1 = 1 ∧ tightN z.1 = 4 ∧ AllOk z.2 := by
  unfold winP at h
  obtain ⟨_, t1, h1, h⟩ := bnd_ok h
  obtain ⟨p, t2, h2, h⟩ := bnd_ok h
  obtain ⟨_, t3, h3, h⟩ := bnd_ok h
  obtain ⟨m, t4, h4, h⟩ := bnd_ok h
  obtain ⟨_, t5, h5, h⟩ := bnd_ok h
  obtain ⟨_, t6, h6, h⟩ := bnd_ok h
  injection h with h; subst h
  have k1 := takeP_ok h1 hk
  obtain ⟨k2, hs, _⟩ := selP_ok k1 h2
  have k3 := takeP_ok h3 k2
  have a4 : AllOk t4 ∧ 1 ≤ m ∧ m ≤ 1000 := by
    unfold sizeP at h4
    split at h4
    · rename_i hh
      injection h4 with h4; injection h4 with h4 h4'; subst h4; subst h4'
      exact ⟨k3.tail, hh.2, (numI_bounds 1000 _).2⟩
    · cases h4
  have k5 := takeP_ok h5 a4.1
  have k6 := takeP_ok h6 k5
  refine ⟨?_, rfl, rfl, k6⟩
  obtain ⟨n, rfl⟩ : ∃ n : Nat, m = n := ⟨m.toNat, by omega⟩
  exact GT.win o n p.name p.conds ho (by omega) (by omega) hs
def InvA (rec : Nat → List Tok → Nat → Out Tr) : Prop := ∀ lv t d z, lv ≤ 3 → d ≤ 20 → AllOk t → rec lv t d = .ok z → GT z.1 ∧ d + nd z.1 (lv + 1) ≤ 20 ∧ AllOk z.2
theorem withinP_ok {rec : Nat → List Tok → Nat → Out Tr} (hr : InvA rec) {ts : List Tok} {deep : Nat} {z : Tr × List Tok} (hdp : deep ≤ 20) (hk : AllOk ts) (h : withinP rec ts deep = .ok z) : GT z.1 ∧ deep + nd z.1 1 ≤ 20 ∧ AllOk z.2 := by
  unfold withinP at h
  obtain ⟨_, t1, h1, h⟩ := bnd_ok h
  obtain ⟨a, t2, h2, h⟩ := bnd_ok h
  obtain ⟨_, t3, h3, h⟩ := bnd_ok h
  injection h with h; subst h
  obtain ⟨b1, b2, b3⟩ := hr 0 _ _ _ (by omega) hdp (takeP_ok h1 hk) h2
  exact ⟨b1, b2, takeP_ok h3 b3⟩
theorem nd_fac {t : Tr} (h : tightN t = 4) (m : Nat) (hm : m ≤ 4) : nd t m = needR t := by
  unfold nd brk; rw [if_neg (by omega)]; omega
theorem innerP_ok {rec : Nat → List Tok → Nat → Out Tr} (hr : InvA rec) {ts : List Tok} {deep : Nat} {z : Tr × List Tok} (hk : AllOk ts) (hd20 : deep + 1 ≤ 20) (h : innerP rec ts (deep + 1) = .ok z) : GT z.1 ∧ deep + nd z.1 4 ≤ 20 ∧ AllOk z.2 := by
  unfold innerP at h
  split at h
  · rename_i h1
    injection h with h; subst h
    obtain ⟨v, hv⟩ := Option.isSome_iff_exists.1 (hk.hd.1 h1)
    have e : numV (hd ts).txt = (v : Int) := by unfold numV; rw [hv]; rfl
    refine ⟨?_, hd20, hk.tail⟩
    show GT (leafT ⟨0, 0, numV (hd ts).txt, [], [], []⟩)
    rw [e]
    exact GT.num v (number_le hv)
  · split at h
    · obtain ⟨a, t1, h1, h⟩ := bnd_ok h
      injection h with h; subst h
      obtain ⟨b1, b2, b3⟩ := hr 3 _ _ _ (by omega) hd20 hk.tail h1
      refine ⟨GT.neg a b1, ?_, b3⟩
      rw [nd_fac rfl 4 (by omega)]
      have b2' : deep + 1 + (brk a 4 + needR a) ≤ 20 := b2
      show deep + (1 + (brk a 4 + needR a)) ≤ 20
      omega
    · split at h
      · obtain ⟨b1, b2, b3⟩ := withinP_ok hr hd20 hk h
        have := nd_brk z.1 4
        exact ⟨b1, by omega, b3⟩
      · split at h
        · rename_i g hg
          have hg4 := idx_small hg
          unfold groupP at h
          obtain ⟨_, t1, h1, h⟩ := bnd_ok h
          obtain ⟨_, t2, h2, h⟩ := bnd_ok h
          obtain ⟨ns, t3, h3, h⟩ := bnd_ok h
          obtain ⟨a, t4, h4, h⟩ := bnd_ok h
          injection h with h; subst h
          have l3 := listP_ok (fun x => isName x = true) (fun t z hk hz => by
            obtain ⟨k1, e1, e2⟩ := kindP_ok hz hk
            exact ⟨k1, by rw [e2]; exact hk.hd.2.1 e1⟩) _ _ _ _ (by simp) (takeP_ok h2 (takeP_ok h1 hk.tail)) h3
          obtain ⟨b1, b2, b3⟩ := withinP_ok hr hd20 l3.1 h4
          refine ⟨GT.grp g ns a (by simp [groupWords] at hg4; omega) l3.2 b1, ?_, b3⟩
          rw [nd_fac rfl 4 (by omega)]
          have b2' : deep + 1 + (brk a 1 + needR a) ≤ 20 := b2
          show deep + (1 + (brk a 1 + needR a)) ≤ 20
          omega
        · split at h
          · rename_i o ho
            have ho5 := idx_small ho
            obtain ⟨b1, b2, b3, b4⟩ := winP_ok (show o < 5 by simp [overWords] at ho5; omega) hk.tail h
            refine ⟨b1, ?_, b4⟩
            rw [nd_fac b3 4 (by omega), b2]; exact hd20
          · obtain ⟨p, t1, h1, h⟩ := bnd_ok h
            injection h with h; subst h
            obtain ⟨k1, hs, e⟩ := selP_ok hk h1
            simp only at hs e
            refine ⟨?_, ?_, k1⟩
            · show GT (leafT p)
              rw [e]; exact GT.sel _ _ hs
            · show deep + nd (leafT p) 4 ≤ 20
              rw [e]; exact hd20
theorem opAt_tight {lv : Nat} {t : Tok} {p : Nat × Nat} (hlv : lv ≤ 2) (h : LS.opAt lv t = some p) : tightT (nd0 p.1 p.2) = lv + 1 ∧ (p = (6, 0) ∨ (p.1 = 4 ∧ p.2 < 4)) := by
  unfold LS.opAt at h
  split at h
  · split at h
    · injection h with h; subst h; subst_vars; exact ⟨rfl, Or.inl rfl⟩
    · cases h
  · split at h
    · subst_vars
      split at h
      · injection h with h; subst h; exact ⟨rfl, Or.inr ⟨rfl, by decide⟩⟩
      · split at h
        · injection h with h; subst h; exact ⟨rfl, Or.inr ⟨rfl, by decide⟩⟩
        · cases h
    · obtain rfl : lv = 2 := by omega
      split at h
      · injection h with h; subst h; exact ⟨rfl, Or.inr ⟨rfl, by decide⟩⟩
      · split at h
        · injection h with h; subst h; exact ⟨rfl, Or.inr ⟨rfl, by decide⟩⟩
        · cases h
theorem node_ok {lv : Nat} {p : Nat × Nat} {a b : Tr} (h1 : tightT (nd0 p.1 p.2) = lv + 1) (h2 : p = (6, 0) ∨ (p.1 = 4 ∧ p.2 < 4)) (ga : GT a) (gb : GT b) : GT (.node 0 0 (nd0 p.1 p.2) a b) ∧ nd (.node 0 0 (nd0 p.1 p.2) a b) (lv + 1) = max (nd a (lv + 1)) (nd b (lv + 2)) := by
  refine ⟨?_, ?_⟩
  · rcases h2 with rfl | ⟨h2, h3⟩
    · exact GT.or a b ga gb
    · obtain ⟨x, y⟩ := p
      simp only at h2 h3
      subst h2
      exact GT.bin y a b h3 ga gb
  · have hk : ¬ p.1 ≤ 2 ∧ ¬ p.1 = 3 ∧ ¬ p.1 = 5 := by
      rcases h2 with rfl | ⟨h2, h3⟩
      · decide
      · omega
    show brk (.node 0 0 (nd0 p.1 p.2) a b) (lv + 1) + (if p.1 ≤ 2 then 1 else if p.1 = 3 then 1 + (brk a 4 + needR a) else if p.1 = 5 then 1 + (brk a 1 + needR a) else max (brk a (tightT (nd0 p.1 p.2)) + needR a) (brk b (tightT (nd0 p.1 p.2) + 1) + needR b)) = _
    rw [if_neg hk.1, if_neg hk.2.1, if_neg hk.2.2, h1]
    have : brk (.node 0 0 (nd0 p.1 p.2) a b) (lv + 1) = 0 := by
      show (if tightT (nd0 p.1 p.2) < lv + 1 then 1 else 0) = 0
      rw [h1, if_neg (by omega)]
    rw [this, Nat.zero_add]
    rfl
theorem parse_ok : ∀ (n : Nat) (m : Bool) (lv : Nat) (a : Tr) (ts : List Tok) (deep : Nat) (z : Tr × List Tok), deep ≤ 20 → AllOk ts → (m = false → lv ≤ 3) → (m = true → lv ≤ 2 ∧ GT a ∧ deep + nd a (lv + 1) ≤ 20) → parse n m lv a ts deep = .ok z → GT z.1 ∧ deep + nd z.1 (lv + 1) ≤ 20 ∧ AllOk z.2
  | 0, _, _, _, _, _, _, _, _, _, _, h => by cases h
  | n + 1, false, lv, a, ts, deep, z, hdp, hk, hlv, _, h => by
    have hlv := hlv rfl
    rw [parse] at h
    split at h
    · subst_vars
      unfold factorP at h
      split at h
      · split at h
        · cases h
        · exact innerP_ok (fun lv t d z hlv hd hk hz => parse_ok n false lv .nil t d z hd hk (fun _ => hlv) (fun h => by cases h) hz) hk (by omega) h
      · cases h
    · rename_i h3
      obtain ⟨b, t1, h1, h2⟩ := bnd_ok h
      obtain ⟨g1, g2, g3⟩ := parse_ok n false (lv + 1) .nil ts deep _ hdp hk (fun _ => by omega) (fun h => by cases h) h1
      simp only at g1 g2 g3
      have := nd_up b (lv + 1)
      exact parse_ok n true lv b t1 deep z hdp g3 (fun h => by cases h) (fun _ => ⟨by omega, g1, by omega⟩) h2
  | n + 1, true, lv, a, ts, deep, z, hdp, hk, _, hm, h => by
    obtain ⟨hlv, ga, gn⟩ := hm rfl
    rw [parse] at h
    split at h
    · injection h with h; subst h; exact ⟨ga, gn, hk⟩
    · rename_i p hp
      obtain ⟨b, t1, h1, h2⟩ := bnd_ok h
      obtain ⟨g1, g2, g3⟩ := parse_ok n false (lv + 1) .nil ts.tail deep _ hdp hk.tail (fun _ => by omega) (fun h => by cases h) h1
      simp only at g1 g2 g3
      obtain ⟨e1, e2⟩ := opAt_tight hlv hp
      obtain ⟨e3, e4⟩ := node_ok e1 e2 ga g1
      refine parse_ok n true lv _ t1 deep z hdp g3 (fun h => by cases h) (fun _ => ⟨hlv, e3, ?_⟩) h2
      have g4 : deep + nd b (lv + 2) ≤ 20 := g2
      rw [e4]; omega
end Go.Proofs.YtpbemaaghbbocaaGreatDoor
