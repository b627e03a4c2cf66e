/- Parts. -/
import Derived.Test.YtpbemaaghbbocaaGreatDoorA05
namespace Go.Proofs.YtpbemaaghbbocaaGreatDoor
open Go.RowKit LS
def TokWf (t : Tok) : Prop := (t.kind = 2 → t.txt.all letter = true) ∧ (t.kind = 4 → t.txt.all (fun c => !letter c) = true)
def ToksWf : List Tok → Prop
  | [] => False
  | [t] => t.kind = 0 ∨ t.kind = 5
  | t :: u :: l => (t.kind = 1 ∨ t.kind = 2 ∨ t.kind = 3 ∨ t.kind = 4) ∧ TokWf t ∧ ToksWf (u :: l)
theorem ToksWf.tail {ts : List Tok} (h : ToksWf ts) (hl : ¬ ((hd ts).kind = 0 ∨ (hd ts).kind = 5)) : ToksWf ts.tail ∧ 1 < ts.length := by
  match ts, h with
  | [t], h => exact absurd h hl
  | t :: u :: l, h => exact ⟨h.2.2, by simp⟩
theorem ToksWf.head {ts : List Tok} (h : ToksWf ts) : TokWf (hd ts) ∧ 0 < ts.length ∧ (hd ts).kind ≤ 5 := by
  match ts, h with
  | [t], h =>
    have h' : t.kind = 0 ∨ t.kind = 5 := h
    refine ⟨⟨fun e => ?_, fun e => ?_⟩, by simp, ?_⟩
    · exact absurd (show t.kind = 2 from e) (by omega)
    · exact absurd (show t.kind = 4 from e) (by omega)
    · show t.kind ≤ 5; omega
  | t :: u :: l, h => exact ⟨h.2.1, by simp, by have := h.1; show t.kind ≤ 5; omega⟩
theorem allTok_cons {p : PTok} {l : List PTok} {ts : List Tok} (h : AllTok (p :: l) ts) : TokIs p (hd ts) ∧ AllTok l ts.tail := by
  match ts, h with
  | t :: m, h => exact h
structure RS where
  b : Nat
  g : Nat
  cp : Nat
  ps : List PTok
  sy : Addr
  dp : Addr
structure RK (w : World) (R : RS) (k : Nat) (ts : List Tok) : Prop where
  rd : RD w R.b R.g R.cp R.ps k
  all : AllTok (R.ps.drop k) ts
  wf : ToksWf ts
  len : R.ps.length ≤ 302
  sy : w.cell? ⟨1, 0, none⟩ = some (.iface 389 (.pointer (some R.sy)))
  dp : w.cell? ⟨2, 0, none⟩ = some (.iface 389 (.pointer (some R.dp)))
theorem RK.lt {w : World} {R : RS} {k : Nat} {ts : List Tok} (h : RK w R k ts) : k < R.ps.length := h.rd.lt
theorem RK.tok {w : World} {R : RS} {k : Nat} {ts : List Tok} (h : RK w R k ts) : TokIs (R.ps[k]'h.lt) (hd ts) := by
  have ha := h.all
  rw [List.drop_eq_getElem_cons h.lt] at ha
  exact (allTok_cons ha).1
theorem RK.size {w : World} {R : RS} {k : Nat} {ts : List Tok} (h : RK w R k ts) : k + ts.length = R.ps.length := by
  have := h.all.length
  rw [List.length_drop] at this
  have := h.lt
  omega
theorem cell_ne {w : World} {b g : Nat} {c0 c1 : Value} {u v : Value} {t : TypeId} (hb : w.heap[b]? = some (.cells #[c0, c1] t (0, 0))) (hg : w.cell? ⟨g, 0, none⟩ = some v) (hne : c0 ≠ v) (_ : u = u) : g ≠ b := by
  rintro rfl
  simp [World.cell?, hb] at hg
  exact hne hg
theorem RK.glob {w : World} {R : RS} {k : Nat} {ts : List Tok} (h : RK w R k ts) : 1 ≠ R.b ∧ 2 ≠ R.b :=
  ⟨cell_ne (u := .nilIface) h.rd.cells h.sy (by intro e; cases e) rfl, cell_ne (u := .nilIface) h.rd.cells h.dp (by intro e; cases e) rfl⟩
theorem RK.below {w w' : World} {R : RS} {k : Nat} {ts : List Tok} (h : RK w R k ts) (hb : Below w.heap.size w w') : RK w' R k ts :=
  ⟨h.rd.below hb, h.all, h.wf, h.len, (hb.cell (p := ⟨_, 0, none⟩) (World.block_lt_of_cell? _ _ h.sy)).trans h.sy, (hb.cell (p := ⟨_, 0, none⟩) (World.block_lt_of_cell? _ _ h.dp)).trans h.dp⟩
theorem RK.blocks {w w' : World} {R : RS} {k : Nat} {ts : List Tok} (h : RK w R k ts) (hg : ∀ j, j < w.heap.size → (j = R.b ∨ j = R.g ∨ j = 1 ∨ j = 2) → w'.heap[j]? = w.heap[j]?) : RK w' R k ts := by
  have hsy := World.block_lt_of_cell? _ _ h.sy
  have hdp := World.block_lt_of_cell? _ _ h.dp
  refine ⟨⟨?_, ?_, h.lt⟩, h.all, h.wf, h.len, ?_, ?_⟩
  · exact (hg _ (Array.getElem?_eq_some_iff.1 h.rd.cells).1 (Or.inl rfl)).trans h.rd.cells
  · exact own_same h.rd.own (fun j hj => by
      have : j = R.g := by simpa [Value.ownBlock] using hj.symm
      subst this
      exact hg _ (own_lt h.rd.own) (Or.inr (Or.inl rfl)))
  · exact (World.cell?_of_block (a := ⟨1, 0, none⟩) (hg _ hsy (Or.inr (Or.inr (Or.inl rfl))))).trans h.sy
  · exact (World.cell?_of_block (a := ⟨2, 0, none⟩) (hg _ hdp (Or.inr (Or.inr (Or.inr rfl))))).trans h.dp
theorem RK.step {w : World} {R : RS} {k : Nat} {ts : List Tok} (h : RK w R k ts) (hl : ¬ ((hd ts).kind = 0 ∨ (hd ts).kind = 5)) : RK (w.setCell ⟨R.b, 1, none⟩ (.int .i64 ((k + 1 : Nat) : Int))) R (k + 1) ts.tail := by
  obtain ⟨hw, h1⟩ := h.wf.tail hl
  have hs := h.size
  obtain ⟨g1, g2⟩ := h.glob
  refine ⟨h.rd.step (by omega), ?_, hw, h.len, ?_, ?_⟩
  · have ha := h.all
    rw [List.drop_eq_getElem_cons h.lt] at ha
    exact (allTok_cons ha).2
  · exact (World.cell?_of_block (a := ⟨1, 0, none⟩) (Go.Deep.blk_setCell_other _ _ _ _ g1)).trans h.sy
  · exact (World.cell?_of_block (a := ⟨2, 0, none⟩) (Go.Deep.blk_setCell_other _ _ _ _ g2)).trans h.dp
theorem ErrAt.lt {w : World} {v : Value} {p : Int} {a : Addr} (h : ErrAt w v p a) : ∃ fa : Nat, v = .iface 94 (.pointer (some ⟨fa, 0, none⟩)) := by
  obtain ⟨fa, h1, _⟩ := h; exact ⟨fa, h1⟩
theorem ErrAt.set {w : World} {v : Value} {p : Int} {a : Addr} (h : ErrAt w v p a) {q : Nat} {c : Array Value} {t : TypeId} {fr : Nat × Nat} (hq : w.heap[q]? = some (.cells c t fr)) (ht : t ≠ 98) (o : Nat) (x : Value) : ErrAt (w.setCell ⟨q, o, none⟩ x) v p a := by
  obtain ⟨fa, h1, h2⟩ := h
  refine ⟨fa, h1, (Go.Deep.blk_setCell_other _ _ _ _ ?_).trans h2⟩
  show fa ≠ q
  rintro rfl
  rw [h2] at hq
  injection hq with h3
  injection h3 with _ h4
  exact ht h4.symm
theorem ErrAt.grown {w w' : World} {v : Value} {p : Int} {a : Addr} (h : ErrAt w v p a) {b : Nat} (hg : w.grownBy w' (some b)) {c : Array Value} {t : TypeId} {fr : Nat × Nat} (hq : w.heap[b]? = some (.cells c t fr)) (ht : t ≠ 98) : ErrAt w' v p a := by
  obtain ⟨fa, h1, h2⟩ := h
  refine ⟨fa, h1, (hg.block fa (Array.getElem?_eq_some_iff.1 h2).1 ?_).trans h2⟩
  intro e
  injection e with e
  subst e
  rw [h2] at hq
  injection hq with h3
  injection h3 with _ h4
  exact ht h4.symm
def ErrIs (w : World) (R : RS) (e : Nat × Nat) (v : Value) : Prop := (e.1 = 2 ∧ ErrAt w v e.2 R.sy) ∨ (e.1 = 3 ∧ ErrAt w v e.2 R.dp)
theorem ErrIs.below {w w' : World} {R : RS} {e : Nat × Nat} {v : Value} (h : ErrIs w R e v) (hb : Below w.heap.size w w') : ErrIs w' R e v := by
  rcases h with ⟨h1, h2⟩ | ⟨h1, h2⟩
  · exact Or.inl ⟨h1, h2.below hb⟩
  · exact Or.inr ⟨h1, h2.below hb⟩
theorem ErrIs.set {w : World} {R : RS} {e : Nat × Nat} {v : Value} (h : ErrIs w R e v) {q : Nat} {c : Array Value} {t : TypeId} {fr : Nat × Nat} (hq : w.heap[q]? = some (.cells c t fr)) (ht : t ≠ 98) (o : Nat) (x : Value) : ErrIs (w.setCell ⟨q, o, none⟩ x) R e v := by
  rcases h with ⟨h1, h2⟩ | ⟨h1, h2⟩
  · exact Or.inl ⟨h1, h2.set hq ht o x⟩
  · exact Or.inr ⟨h1, h2.set hq ht o x⟩
theorem ErrIs.shape {w : World} {R : RS} {e : Nat × Nat} {v : Value} (h : ErrIs w R e v) : ∃ fa : Nat, v = .iface 94 (.pointer (some ⟨fa, 0, none⟩)) := by
  rcases h with ⟨_, h2⟩ | ⟨_, h2⟩ <;> exact h2.lt
def Res {α : Type} (R : RS) (V : World → α → Prop) (w : World) (r : Out α) (v : Value) : Prop := match r with
  | .error e => ErrIs w R e v
  | .ok x => v = .nilIface ∧ (∃ k, RK w R k x.2) ∧ V w x.1
theorem pk_mark {k : Nat} (h : k ≤ 5) : (pk k = 3 ↔ k = 4) ∧ (pk k = 1 ↔ k = 2) ∧ (pk k = 2 ↔ k = 3) ∧ (pk k = 0 ↔ k = 1) ∧ (pk k = 4 ↔ k = 0) := by
  unfold pk
  match k, h with
  | 0, _ => decide
  | 1, _ => decide
  | 2, _ => decide
  | 3, _ => decide
  | 4, _ => decide
  | 5, _ => decide
theorem not_both {l : List UInt8} (h1 : l.all letter = true) (h2 : l.all (fun c => !letter c) = true) : l = [] := by
  cases l with
  | nil => rfl
  | cons a l =>
    simp at h1 h2
    rw [h1.1] at h2
    exact absurd h2.1 (by decide)
theorem mark_isT {p : PTok} {t : Tok} (h : TokIs p t) (hw : TokWf t) (hk : t.kind ≤ 5) {s : ByteArray} (hs : (bl s).all (fun c => !letter c) = true) (hne : bl s ≠ []) : markB p s = isT (bl s) t := by
  obtain ⟨h1, _, h3, _⟩ := h
  unfold markB isT
  rw [h1, toList_bl, toList_bl, h3]
  have hp := (pk_mark hk).1
  by_cases hx : t.txt = bl s
  · rw [beq_iff_eq.2 hx, Bool.and_true, Bool.and_true]
    have h2 : t.kind ≠ 2 := fun e => hne (by rw [← hx]; exact not_both (hw.1 e) (by rw [hx]; exact hs))
    rw [beq_eq_false_iff_ne.2 h2, Bool.false_or, Bool.eq_iff_iff, beq_iff_eq, beq_iff_eq]
    exact ⟨fun e => hp.1 (by omega), fun e => by rw [hp.2 e]; rfl⟩
  · rw [beq_eq_false_iff_ne.2 hx, Bool.and_false, Bool.and_false]
theorem word_isT {p : PTok} {t : Tok} (h : TokIs p t) (hw : TokWf t) (hk : t.kind ≤ 5) {s : ByteArray} (hs : (bl s).all letter = true) (hne : bl s ≠ []) : wordB p s = isT (bl s) t := by
  obtain ⟨h1, _, h3, _⟩ := h
  unfold wordB isT
  rw [h1, toList_bl, toList_bl, h3]
  have hp := (pk_mark hk).2.1
  by_cases hx : t.txt = bl s
  · rw [beq_iff_eq.2 hx, Bool.and_true, Bool.and_true]
    have h2 : t.kind ≠ 4 := fun e => hne (by rw [← hx]; exact not_both (by rw [hx]; exact hs) (hw.2 e))
    rw [beq_eq_false_iff_ne.2 h2, Bool.or_false, Bool.eq_iff_iff, beq_iff_eq, beq_iff_eq]
    exact ⟨fun e => hp.1 (by omega), fun e => by rw [hp.2 e]; rfl⟩
  · rw [beq_eq_false_iff_ne.2 hx, Bool.and_false, Bool.and_false]
theorem isT_dead {s : List UInt8} {t : Tok} (h : isT s t = true) : ¬ (t.kind = 0 ∨ t.kind = 5) := by
  unfold isT at h
  rw [Bool.and_eq_true, Bool.or_eq_true, beq_iff_eq, beq_iff_eq] at h
  omega
theorem Took.res {w w' : World} {R : RS} {k : Nat} {ts : List Tok} {ok : Bool} {v : Value} (h : RK w R k ts) (hg : w.grownBy w' (some R.b)) (ht : Took w' R.b R.g R.cp R.ps k R.sy (R.ps[k]'h.lt).at_ ok v) (hl : ok = true → ¬ ((hd ts).kind = 0 ∨ (hd ts).kind = 5)) {α : Type} {V : World → α → Prop} {a : α} (hV : ok = true → V w' a) :
    Res R V w' (if ok then .ok (a, ts.tail) else .error (2, (hd ts).at_)) v := by
  have hat : (R.ps[k]'h.lt).at_ = (hd ts).at_ := h.tok.2.1
  rcases ht with ⟨rfl, rfl, hr⟩ | ⟨rfl, he, hr⟩
  · have hd' := hl rfl
    obtain ⟨hw, h1⟩ := h.wf.tail hd'
    obtain ⟨g1, g2⟩ := h.glob
    refine ⟨rfl, ⟨k + 1, hr, ?_, hw, h.len, ?_, ?_⟩, hV rfl⟩
    · have ha := h.all
      rw [List.drop_eq_getElem_cons h.lt] at ha
      exact (allTok_cons ha).2
    · exact (World.cell?_of_block (a := ⟨1, 0, none⟩) (hg.block _ (World.block_lt_of_cell? _ _ h.sy) (fun e => g1 (Option.some.inj e)))).trans h.sy
    · exact (World.cell?_of_block (a := ⟨2, 0, none⟩) (hg.block _ (World.block_lt_of_cell? _ _ h.dp) (fun e => g2 (Option.some.inj e)))).trans h.dp
  · rw [hat] at he
    exact Or.inl ⟨rfl, he⟩
theorem takeMark_t {w : World} {R : RS} {k : Nat} {ts : List Tok} (h : RK w R k ts) (s : ByteArray) (hs : (bl s).all (fun c => !letter c) = true) (hne : bl s ≠ []) :
    Calls Tryz.prog 152 #[.pointer (some ⟨R.b, 0, none⟩), .string s] w fun e w' => ∃ v, e = .returned v ∧ Hid (Res R (fun _ (_ : Unit) => True) w' (takeP (bl s) ts) v) ∧ w.grownBy w' (some R.b) := by
  have hm := mark_isT h.tok h.wf.head.1 h.wf.head.2.2 hs hne
  have hl : markB (R.ps[k]'h.lt) s = true → k + 1 < R.ps.length := fun e => by
    have := (h.wf.tail (isT_dead (hm.symm.trans e))).2
    have := h.size
    omega
  refine (takeMark_any h.rd s hl (by have := h.len; omega) h.sy).mono ?_
  rintro e w' ⟨v, rfl, ht, hg⟩
  refine ⟨v, rfl, ?_, hg⟩
  have := ht.out.res (α := Unit) (V := fun _ _ => True) (a := ()) h hg (fun e => isT_dead (hm.symm.trans e)) (fun _ => trivial)
  rw [hm] at this
  exact this
theorem takeWord_t {w : World} {R : RS} {k : Nat} {ts : List Tok} (h : RK w R k ts) (s : ByteArray) (hs : (bl s).all letter = true) (hne : bl s ≠ []) :
    Calls Tryz.prog 153 #[.pointer (some ⟨R.b, 0, none⟩), .string s] w fun e w' => ∃ v, e = .returned v ∧ Hid (Res R (fun _ (_ : Unit) => True) w' (takeP (bl s) ts) v) ∧ w.grownBy w' (some R.b) := by
  have hm := word_isT h.tok h.wf.head.1 h.wf.head.2.2 hs hne
  have hl : wordB (R.ps[k]'h.lt) s = true → k + 1 < R.ps.length := fun e => by
    have := (h.wf.tail (isT_dead (hm.symm.trans e))).2
    have := h.size
    omega
  refine (takeWord_any h.rd s hl (by have := h.len; omega) h.sy).mono ?_
  rintro e w' ⟨v, rfl, ht, hg⟩
  refine ⟨v, rfl, ?_, hg⟩
  have := ht.out.res (α := Unit) (V := fun _ _ => True) (a := ()) h hg (fun e => isT_dead (hm.symm.trans e)) (fun _ => trivial)
  rw [hm] at this
  exact this
theorem name_kind {p : PTok} {t : Tok} (h : TokIs p t) (hk : t.kind ≤ 5) : nameB p = decide (t.kind = 2) := by
  unfold nameB
  rw [h.1, Bool.eq_iff_iff, beq_iff_eq, decide_eq_true_iff]
  have hp := (pk_mark hk).2.1
  exact ⟨fun e => hp.1 (by omega), fun e => by rw [hp.2 e]; rfl⟩
theorem takeName_t {w : World} {R : RS} {k : Nat} {ts : List Tok} (h : RK w R k ts) :
    Calls Tryz.prog 155 #[.pointer (some ⟨R.b, 0, none⟩)] w fun e w' => ∃ (x : ByteArray) (v : Value), e = .returned (.tuple #[.string x, v]) ∧ Hid (Res R (fun _ a => bl x = a) w' (kindP 2 ts) v) ∧ w.grownBy w' (some R.b) := by
  have hm := name_kind h.tok h.wf.head.2.2
  have hd' : nameB (R.ps[k]'h.lt) = true → ¬ ((hd ts).kind = 0 ∨ (hd ts).kind = 5) := fun e => by
    have : (hd ts).kind = 2 := of_decide_eq_true (hm.symm.trans e)
    omega
  have hl : nameB (R.ps[k]'h.lt) = true → k + 1 < R.ps.length := fun e => by
    have := (h.wf.tail (hd' e)).2
    have := h.size
    omega
  refine (takeName_any h.rd hl (by have := h.len; omega) h.sy).mono ?_
  rintro e w' ⟨x, v, rfl, ht, hg⟩
  refine ⟨x, v, rfl, ?_, hg⟩
  have := ht.out.1.res (α := List UInt8) (V := fun _ a => bl x = a) (a := (hd ts).txt) h hg hd' (fun e => by rw [ht.out.2 e]; exact h.tok.2.2.1)
  rw [hm] at this
  unfold kindP
  by_cases hk : (hd ts).kind = 2
  · rw [if_pos hk]; rw [decide_eq_true hk] at this; exact this
  · rw [if_neg hk]; rw [decide_eq_false hk] at this; exact this
theorem cannotStand_t {w : World} {R : RS} {k : Nat} {ts : List Tok} (h : RK w R k ts) :
    Calls Tryz.prog 34 #[.pointer (some ⟨R.b, 0, none⟩)] w fun e w' => ∃ v, e = .returned v ∧ Hid (ErrIs w' R (2, (hd ts).at_) v) ∧ Below w.heap.size w w' := by
  refine (cannotStand_any h.rd h.sy).mono ?_
  rintro e w' ⟨v, rfl, hv, hb⟩
  refine ⟨v, rfl, Or.inl ⟨rfl, ?_⟩, hb⟩
  have := hv.out
  rw [h.tok.2.1] at this
  exact this
theorem token_t {w : World} {R : RS} {k : Nat} {ts : List Tok} (h : RK w R k ts) :
    Calls Tryz.prog 33 #[.pointer (some ⟨R.b, 0, none⟩)] w fun e w' => ∃ t : PTok, e = .returned (.agg #[.int .i64 t.kd, .int .i64 t.at_, .string t.tx, .int .i64 t.v]) ∧ Hid (TokIs t (hd ts)) ∧ Below w.heap.size w w' := by
  refine (token_any h.rd).mono ?_
  rintro e w' ⟨rfl, hb⟩
  exact ⟨_, rfl, h.tok, hb⟩
theorem isMark_t {t : PTok} {u : Tok} (h : TokIs t u) (hw : TokWf u) (hk : u.kind ≤ 5) (s : ByteArray) (hs : (bl s).all (fun c => !letter c) = true) (hne : bl s ≠ []) (w : World) :
    Calls Tryz.prog 110 #[.agg #[.int .i64 t.kd, .int .i64 t.at_, .string t.tx, .int .i64 t.v], .string s] w fun e w' => e = .returned (.bool (isT (bl s) u)) ∧ Below w.heap.size w w' := by
  rw [← mark_isT h hw hk hs hne]
  exact isMark_any t s w
end Go.Proofs.YtpbemaaghbbocaaGreatDoor
