/- Parts. -/
import Derived.Test.YtpbemaaghbbocaaGreatDoorA44
namespace Go.Proofs.YtpbemaaghbbocaaGreatDoor
open Go.RowKit LS
def hdS (S : List Sh) : Sh := S.headD (0, [])
def isS (s : List UInt8) (x : Sh) : Bool := (x.1 == 2 || x.1 == 4) && x.2 == s
def opSh (lv : Nat) (x : Sh) : Option (Nat × Nat) := LS.opAt lv ⟨x.1, x.2, 0⟩
theorem isT_sh (s : List UInt8) (t : Tok) : isT s t = isS s (sh t) := rfl
theorem opAt_sh (lv : Nat) (t : Tok) : LS.opAt lv t = opSh lv (sh t) := rfl
theorem hd_sh (ts : List Tok) : sh (hd ts) = hdS (ts.map sh) := by cases ts <;> rfl
theorem cons_sh {ts : List Tok} {x : Sh} {S : List Sh} (h : ts.map sh = x :: S) : sh (hd ts) = x ∧ ts.tail.map sh = S ∧ ts.length = S.length + 1 := by
  cases ts with
  | nil => cases h
  | cons t r =>
    rw [List.map_cons] at h
    injection h with h1 h2
    exact ⟨h1, h2, by rw [← h2, List.length_map]; rfl⟩
theorem take_sh {ts : List Tok} {s : List UInt8} {x : Sh} {S : List Sh} (h : ts.map sh = x :: S) (hx : isS s x = true) : takeP s ts = .ok ((), ts.tail) := by
  unfold takeP
  rw [isT_sh, (cons_sh h).1, if_pos hx]
theorem kind_sh {ts : List Tok} {k : Nat} {x : List UInt8} {S : List Sh} (h : ts.map sh = (k, x) :: S) : kindP k ts = .ok (x, ts.tail) := by
  have h1 := (cons_sh h).1
  unfold kindP
  rw [show (hd ts).kind = k from congrArg Prod.fst h1, if_pos rfl, show (hd ts).txt = x from congrArg Prod.snd h1]
theorem sepT_cons (x : List Sh) : ∀ L : List (List Sh), sepT (x :: L) = x ++ L.flatMap fun y => (4, [44]) :: y
  | [] => by simp [sepT]
  | y :: L => by
    show x ++ (4, [44]) :: sepT (y :: L) = _
    rw [sepT_cons y L]
    rfl
theorem sepT_len {α : Type} (g : α → List Sh) (hg : ∀ a, 1 ≤ (g a).length) : ∀ l : List α, l.length ≤ (sepT (l.map g)).length
  | [] => Nat.zero_le _
  | a :: l => by
    rw [List.map_cons, sepT_cons, List.length_append, List.length_cons]
    have h1 := hg a
    have : ∀ m : List α, m.length ≤ ((m.map g).flatMap fun y => ((4, [44]) : Sh) :: y).length := by
      intro m
      induction m with
      | nil => exact Nat.zero_le _
      | cons b m ih => rw [List.map_cons, List.flatMap_cons, List.length_append, List.length_cons, List.length_cons]; omega
    have := this l
    omega
theorem list_sh {α : Type} (item : List Tok → Out α) (close : List UInt8) (g : α → List Sh) (ok : α → Prop)
    (hi : ∀ a, ok a → ∀ ts S, ts.map sh = g a ++ S → ∃ r, r.map sh = S ∧ item ts = .ok (a, r))
    (hc : ∀ a, ok a → ∀ S, isS close (hdS (g a ++ S)) = false) (hcm : isS close (4, [44]) = false) :
    ∀ (l acc : List α) (n : Nat) (ts : List Tok) (S : List Sh), (∀ a ∈ l, ok a) → l.length < n →
      ts.map sh = (if acc.isEmpty then sepT (l.map g) else (l.map g).flatMap fun y => (4, [44]) :: y) ++ (4, close) :: S → ∃ r, r.map sh = S ∧ listP item close n acc ts = .ok (acc ++ l, r)
  | [], acc, n, ts, S, _, hn, h => by
    obtain ⟨n, rfl⟩ : ∃ k, n = k + 1 := ⟨n - 1, by simp at hn; omega⟩
    have h' : ts.map sh = (4, close) :: S := by rw [h]; cases acc <;> rfl
    obtain ⟨h1, h2, _⟩ := cons_sh h'
    refine ⟨ts.tail, h2, ?_⟩
    rw [listP, isT_sh, h1, if_pos (by simp [isS]), List.append_nil]
  | a :: l, acc, n, ts, S, hok, hn, h => by
    obtain ⟨n, rfl⟩ : ∃ k, n = k + 1 := ⟨n - 1, by simp at hn; omega⟩
    have ha := hok a (List.mem_cons_self ..)
    have hl : ∀ x ∈ l, ok x := fun x hx => hok x (List.mem_cons_of_mem _ hx)
    have hn' : l.length < n := by simp at hn; omega
    have hne : (acc ++ [a]).isEmpty = false := by cases acc <;> rfl
    have fin : ∀ t1 : List Tok, t1.map sh = g a ++ (((l.map g).flatMap fun y => (4, [44]) :: y) ++ (4, close) :: S) → ∃ r, r.map sh = S ∧ (bnd (item t1) fun a r => listP item close n (acc ++ [a]) r) = .ok (acc ++ a :: l, r) := by
      intro t1 ht1
      obtain ⟨r1, e1, e2⟩ := hi a ha t1 _ ht1
      obtain ⟨r, e3, e4⟩ := list_sh item close g ok hi hc hcm l (acc ++ [a]) n r1 S hl hn' (by rw [hne]; exact e1)
      refine ⟨r, e3, ?_⟩
      rw [e2]
      show listP item close n (acc ++ [a]) r1 = _
      rw [e4, List.append_assoc]; rfl
    cases hacc : acc.isEmpty with
    | true =>
      rw [hacc, if_pos rfl, List.map_cons, sepT_cons, List.append_assoc] at h
      obtain ⟨r, e1, e2⟩ := fin ts h
      refine ⟨r, e1, ?_⟩
      rw [listP, isT_sh, hd_sh, h, hc a ha, if_neg Bool.false_ne_true, hacc]
      exact e2
    | false =>
      rw [hacc, if_neg Bool.false_ne_true, List.map_cons, List.flatMap_cons, List.cons_append, List.cons_append, List.append_assoc] at h
      obtain ⟨h1, h2, _⟩ := cons_sh h
      obtain ⟨r, e1, e2⟩ := fin ts.tail h2
      refine ⟨r, e1, ?_⟩
      rw [listP, isT_sh, h1, hcm, if_neg Bool.false_ne_true, hacc, if_neg Bool.false_ne_true, take_sh h (by rfl)]
      exact e2
theorem cond_sh (c : Cnd) (_ : cndOk c) (ts : List Tok) (S : List Sh) (h : ts.map sh = condT c ++ S) : ∃ r, r.map sh = S ∧ condP ts = .ok (c, r) := by
  obtain ⟨n, v, b⟩ := c
  have h' : ts.map sh = (2, n) :: (4, if b then [33, 61] else [61]) :: (3, v) :: S := h
  obtain ⟨_, h2, _⟩ := cons_sh h'
  obtain ⟨h3, h4, _⟩ := cons_sh h2
  obtain ⟨_, h6, _⟩ := cons_sh h4
  refine ⟨ts.tail.tail.tail, h6, ?_⟩
  unfold condP
  rw [kind_sh h']
  show (bnd (signP ts.tail) fun m r => bnd (kindP 3 r) fun b r => .ok ((n, b, m), r)) = _
  have hs : signP ts.tail = .ok (b, ts.tail.tail) := by
    unfold signP
    cases b with
    | true => rw [isT_sh, h3, if_pos (by rfl)]
    | false => rw [isT_sh, h3, if_neg (by decide), take_sh h2 (by rfl)]; rfl
  rw [hs]
  show (bnd (kindP 3 ts.tail.tail) fun b_1 r => .ok ((n, b_1, b), r)) = _
  rw [kind_sh h4]
  rfl
theorem name_not {x : List UInt8} (h : isName x = true) (c : UInt8) (hc : letter c = false) : x ≠ [c] := by
  rintro rfl
  unfold isName at h
  rw [Bool.and_eq_true, List.all_cons, hc] at h
  exact absurd h.1 (by decide)
theorem sel_sh (a : Nd) (h : selOk a.name a.conds) (ts : List Tok) (S : List Sh) (hts : ts.map sh = selTk a ++ S) (hS : isS [123] (hdS S) = false) : ∃ r, r.map sh = S ∧ selP ts = .ok (⟨1, 0, 0, a.name, a.conds, []⟩, r) := by
  obtain ⟨g1, g2, g3, g4, g5, g6⟩ := h
  unfold selTk at hts
  have hts' : ts.map sh = (2, a.name) :: ((if a.conds = [] then [] else (4, [123]) :: (sepT (a.conds.map condT) ++ [(4, [125])])) ++ S) := hts
  obtain ⟨h1, h2, _⟩ := cons_sh hts'
  have hk : (hd ts).kind = 2 := congrArg Prod.fst h1
  have hx : (hd ts).txt = a.name := congrArg Prod.snd h1
  have hnm : nameP ts = .ok (a.name, ts.tail) := by
    unfold nameP
    rw [if_neg, kind_sh hts']
    unfold reserved
    rw [hx, g2, g3, isT_sh, isT_sh, h1]
    simp [isS, g4, g5]
  unfold selP
  rw [hnm]
  show ∃ r, r.map sh = S ∧ (if isT [123] (hd ts.tail) then bnd (listP condP [125] ts.tail.length [] ts.tail.tail) fun cs r => .ok ((⟨1, 0, 0, a.name, cs, []⟩ : Nd), r) else .ok ((⟨1, 0, 0, a.name, [], []⟩ : Nd), ts.tail)) = (.ok ((⟨1, 0, 0, a.name, a.conds, []⟩ : Nd), r) : Out Nd)
  by_cases hc : a.conds = []
  · rw [if_pos hc, List.nil_append] at h2
    refine ⟨ts.tail, h2, ?_⟩
    rw [isT_sh, hd_sh, h2, hS, if_neg Bool.false_ne_true, hc]
  · rw [if_neg hc, List.cons_append, List.append_assoc] at h2
    obtain ⟨h3, h4, h5⟩ := cons_sh h2
    have hlen := sepT_len condT (fun _ => by show 1 ≤ 3; omega) a.conds
    rw [List.length_append] at h5
    obtain ⟨r, e1, e2⟩ := list_sh condP [125] condT cndOk cond_sh (fun c hc S => by
      have : c.1 ≠ [125] := name_not hc.1 125 (by decide)
      simp [condT, hdS, isS, this]) (by rfl) a.conds [] ts.tail.length ts.tail.tail S g6 (by omega) (by simpa using h4)
    refine ⟨r, e1, ?_⟩
    rw [isT_sh, h3, if_pos (by rfl), e2]
    rfl
def stops (lv : Nat) (S : List Sh) : Prop := isS [123] (hdS S) = false ∧ ∀ k, lv ≤ k → k ≤ 2 → opSh k (hdS S) = none
theorem stops_up {lv : Nat} {S : List Sh} (h : stops lv S) : stops (lv + 1) S := ⟨h.1, fun k hk h2 => h.2 k (by omega) h2⟩
theorem stops_end (lv : Nat) : stops lv [(0, [])] := ⟨rfl, fun k _ h => by
  obtain rfl | rfl | rfl : k = 0 ∨ k = 1 ∨ k = 2 := by omega
  all_goals rfl⟩
theorem stops_shut (lv : Nat) (S : List Sh) : stops lv ((4, [41]) :: S) := ⟨rfl, fun k _ h => by
  obtain rfl | rfl | rfl : k = 0 ∨ k = 1 ∨ k = 2 := by omega
  all_goals rfl⟩
def DP (t : Tr) (lv : Nat) : Prop := ∀ n ts rs deep, ts.map sh = toks t (lv + 1) ++ rs → stops lv rs → 5 * (toks t (lv + 1)).length + 4 ≤ n + lv → deep + nd t (lv + 1) ≤ 20 → ∃ r, r.map sh = rs ∧ parse n false lv .nil ts deep = .ok (t, r)
def CP (t : Tr) (lv : Nat) : Prop := ∀ n ts rs deep, ts.map sh = toks t (lv + 1) ++ rs → stops (lv + 1) rs → 5 * (toks t (lv + 1)).length + 4 ≤ n + lv → deep + nd t (lv + 1) ≤ 20 → ∃ r n', r.map sh = rs ∧ n ≤ n' + 5 * (toks t (lv + 1)).length ∧ 1 ≤ n' ∧ parse n false lv .nil ts deep = parse n' true lv t r deep
theorem d_of_c {t : Tr} {lv : Nat} (hlv : lv ≤ 2) (h : CP t lv) : DP t lv := by
  intro n ts rs deep h1 h2 h3 h4
  obtain ⟨r, n', e1, e2, e3, e4⟩ := h n ts rs deep h1 (stops_up h2) h3 h4
  refine ⟨r, e1, ?_⟩
  obtain ⟨n', rfl⟩ : ∃ k, n' = k + 1 := ⟨n' - 1, by omega⟩
  rw [e4, parse, opAt_sh, hd_sh, e1, h2.2 lv (Nat.le_refl _) hlv]
theorem c_of_d {t : Tr} {lv : Nat} (hlv : lv ≤ 2) (ht : toks t (lv + 2) = toks t (lv + 1)) (hn : nd t (lv + 2) = nd t (lv + 1)) (hp : 1 ≤ (toks t (lv + 1)).length) (h : DP t (lv + 1)) : CP t lv := by
  intro n ts rs deep h1 h2 h3 h4
  obtain ⟨n, rfl⟩ : ∃ k, n = k + 1 := ⟨n - 1, by omega⟩
  obtain ⟨r, e1, e2⟩ := h n ts rs deep (by rw [h1]; exact congrArg (· ++ rs) ht.symm) h2 (by
    show 5 * (toks t (lv + 2)).length + 4 ≤ n + (lv + 1)
    rw [ht]; omega) (by
    show deep + nd t (lv + 2) ≤ 20
    rw [hn]; exact h4)
  refine ⟨r, n, e1, by omega, by omega, ?_⟩
  rw [parse, if_neg (by omega), e2]
  rfl
theorem toks_un {t : Tr} {m : Nat} (h : m ≤ tightN t) : toks t m = toks t 0 := by
  cases t with
  | nil => rfl
  | node x y a l r =>
    show wrapTk (decide (tightT a < m)) _ = wrapTk (decide (tightT a < 0)) _
    have h' : m ≤ tightT a := h
    rw [decide_eq_false (by omega), decide_eq_false (by omega)]
theorem toks_br {t : Tr} {m : Nat} (h : tightN t < m) (ht : t ≠ .nil) : toks t m = (4, [40]) :: (toks t 0 ++ [(4, [41])]) := by
  cases t with
  | nil => exact absurd rfl ht
  | node x y a l r =>
    show wrapTk (decide (tightT a < m)) _ = (4, [40]) :: (wrapTk (decide (tightT a < 0)) _ ++ [(4, [41])])
    have h' : tightT a < m := h
    rw [decide_eq_true h', decide_eq_false (by omega)]
    rfl
theorem nd_un {t : Tr} {m : Nat} (h : m ≤ tightN t) : nd t m = needR t := by
  unfold nd brk; rw [if_neg (by omega)]; omega
theorem nd_br {t : Tr} {m : Nat} (h : tightN t < m) : nd t m = needR t + 1 := by
  unfold nd brk; rw [if_pos h]; omega
theorem level_same {t : Tr} {lv : Nat} (hn : t ≠ .nil) (h : tightN t ≠ lv + 1) : toks t (lv + 2) = toks t (lv + 1) ∧ nd t (lv + 2) = nd t (lv + 1) := by
  by_cases hl : lv + 2 ≤ tightN t
  · exact ⟨by rw [toks_un hl, toks_un (m := lv + 1) (by omega)], by rw [nd_un hl, nd_un (m := lv + 1) (by omega)]⟩
  · exact ⟨by rw [toks_br (m := lv + 2) (by omega) hn, toks_br (m := lv + 1) (by omega) hn], by rw [nd_br (m := lv + 2) (by omega), nd_br (m := lv + 1) (by omega)]⟩
theorem inner_openA {rec : Nat → List Tok → Nat → Out Tr} {ts : List Tok} {deep : Nat} {S : List Sh} (h : ts.map sh = (4, [40]) :: S) : innerP rec ts deep = withinP rec ts deep := by
  have h1 := (cons_sh h).1
  have hk : (hd ts).kind = 4 := congrArg Prod.fst h1
  unfold innerP
  rw [if_neg (by omega), isT_sh, h1, if_neg (by decide), isT_sh, h1, if_pos (by rfl)]
theorem within_sh {t : Tr} (h : DP t 0) {n : Nat} {ts : List Tok} {rs : List Sh} {deep : Nat} (h1 : ts.map sh = (4, [40]) :: (toks t 1 ++ (4, [41]) :: rs)) (hf : 5 * (toks t 1).length + 4 ≤ n) (hd : deep + nd t 1 ≤ 20) : ∃ r, r.map sh = rs ∧ withinP (fun lv ts d => parse n false lv .nil ts d) ts deep = .ok (t, r) := by
  obtain ⟨_, h2, _⟩ := cons_sh h1
  obtain ⟨r, e1, e2⟩ := h n ts.tail _ deep h2 (stops_shut 0 rs) (by omega) hd
  obtain ⟨_, e3, _⟩ := cons_sh e1
  refine ⟨r.tail, e3, ?_⟩
  unfold withinP
  rw [take_sh h1 (by rfl)]
  show (bnd (parse n false 0 .nil ts.tail deep) fun a r => bnd (takeP [41] r) fun _ r => .ok (a, r)) = _
  rw [e2]
  show (bnd (takeP [41] r) fun _ r => .ok (t, r)) = _
  rw [take_sh e1 (by rfl)]
  rfl
theorem fac_go {n : Nat} {ts : List Tok} {deep : Nat} (h1 : startsT (hd ts) = true) (h2 : deep < 20) : parse (n + 1) false 3 .nil ts deep = innerP (fun lv ts d => parse n false lv .nil ts d) ts (deep + 1) := by
  rw [parse, if_pos rfl, factorP, if_pos h1, if_neg (by omega)]
theorem starts_sh {ts : List Tok} {x : Sh} {S : List Sh} (h : ts.map sh = x :: S) (hx : startsT ⟨x.1, x.2, 0⟩ = true) : startsT (hd ts) = true := by
  have e : startsT (hd ts) = startsT ⟨(sh (hd ts)).1, (sh (hd ts)).2, 0⟩ := rfl
  rw [e, (cons_sh h).1]; exact hx
theorem d3_br {t : Tr} (hn : t ≠ .nil) (ht : tightN t < 4) (h1 : 1 ≤ tightN t) (h : DP t 0) : DP t 3 := by
  intro n ts rs deep hts hs hf hd
  have e1 : toks t 4 = (4, [40]) :: (toks t 1 ++ [(4, [41])]) := by rw [toks_br ht hn, toks_un h1]
  have e2 : nd t 4 = nd t 1 + 1 := by rw [nd_br ht, nd_un h1]
  have hts' : ts.map sh = (4, [40]) :: (toks t 1 ++ (4, [41]) :: rs) := by rw [hts, show toks t (3 + 1) = _ from e1]; simp
  have hf' : 5 * (toks t 1).length + 14 ≤ n + 3 := by
    have : (toks t (3 + 1)).length = (toks t 1).length + 2 := by rw [show toks t (3 + 1) = _ from e1]; simp
    omega
  have hd' : deep + (nd t 1 + 1) ≤ 20 := by rw [← e2]; exact hd
  obtain ⟨n, rfl⟩ : ∃ k, n = k + 1 := ⟨n - 1, by omega⟩
  rw [fac_go (starts_sh hts' (by rfl)) (by omega), inner_openA hts']
  exact within_sh h hts' (by omega) (by omega)
theorem gt_ne {t : Tr} (h : GT t) : t ≠ .nil := by cases h <;> intro h <;> cases h
theorem wrap_len (b : Bool) (S : List Sh) (h : 1 ≤ S.length) : 1 ≤ (wrapTk b S).length := by
  cases b
  · exact h
  · simp [wrapTk]
theorem toks_pos {t : Tr} (h : GT t) (m : Nat) : 1 ≤ (toks t m).length := by
  cases h with
  | num n h => exact wrap_len _ _ (by simp [coreTk])
  | sel nm cs h => exact wrap_len _ _ (by simp [coreTk, selTk])
  | win o n nm cs _ _ _ _ => exact wrap_len _ _ (by simp [coreTk])
  | neg l _ => exact wrap_len _ _ (by simp [coreTk, nd0])
  | grp g ns l _ _ _ => exact wrap_len _ _ (by simp [coreTk])
  | bin o l r _ _ _ => exact wrap_len _ _ (by simp [coreTk, nd0]; omega)
  | or l r _ _ => exact wrap_len _ _ (by simp [coreTk, nd0]; omega)
def AllP (t : Tr) : Prop := (∀ lv, lv ≤ 3 → DP t lv) ∧ ∀ lv, lv ≤ 2 → CP t lv
theorem all_mk {t : Tr} (d0 : DP t 0) (d1 : DP t 1) (d2 : DP t 2) (d3 : DP t 3) (c0 : CP t 0) (c1 : CP t 1) (c2 : CP t 2) : AllP t := ⟨fun lv hlv => by
    obtain rfl | rfl | rfl | rfl : lv = 0 ∨ lv = 1 ∨ lv = 2 ∨ lv = 3 := by omega
    · exact d0
    · exact d1
    · exact d2
    · exact d3, fun lv hlv => by
    obtain rfl | rfl | rfl : lv = 0 ∨ lv = 1 ∨ lv = 2 := by omega
    · exact c0
    · exact c1
    · exact c2⟩
theorem down {t : Tr} (h : GT t) {lv : Nat} (hlv : lv ≤ 2) (ht : tightN t ≠ lv + 1) (hd : DP t (lv + 1)) : CP t lv ∧ DP t lv := by
  obtain ⟨e1, e2⟩ := level_same (gt_ne h) ht
  have hc := c_of_d hlv e1 e2 (toks_pos h _) hd
  exact ⟨hc, d_of_c hlv hc⟩
theorem all_of4 {t : Tr} (h : GT t) (ht : tightN t = 4) (d3 : DP t 3) : AllP t := by
  have k2 := down h (lv := 2) (by omega) (by omega) d3
  have k1 := down h (lv := 1) (by omega) (by omega) k2.2
  have k0 := down h (lv := 0) (by omega) (by omega) k1.2
  exact all_mk k0.2 k1.2 k2.2 d3 k0.1 k1.1 k2.1
theorem all_ofc {t : Tr} (h : GT t) {lv : Nat} (hlv : lv ≤ 2) (ht : tightN t = lv + 1) (hc : CP t lv) : AllP t := by
  have hd := d_of_c hlv hc
  obtain rfl | rfl | rfl : lv = 0 ∨ lv = 1 ∨ lv = 2 := by omega
  · have d3 := d3_br (gt_ne h) (by omega) (by omega) hd
    have k2 := down h (lv := 2) (by omega) (by omega) d3
    have k1 := down h (lv := 1) (by omega) (by omega) k2.2
    exact all_mk hd k1.2 k2.2 d3 hc k1.1 k2.1
  · have k0 := down h (lv := 0) (by omega) (by omega) hd
    have d3 := d3_br (gt_ne h) (by omega) (by omega) k0.2
    have k2 := down h (lv := 2) (by omega) (by omega) d3
    exact all_mk k0.2 hd k2.2 d3 k0.1 hc k2.1
  · have k1 := down h (lv := 1) (by omega) (by omega) hd
    have k0 := down h (lv := 0) (by omega) (by omega) k1.2
    have d3 := d3_br (gt_ne h) (by omega) (by omega) k0.2
    exact all_mk k0.2 k1.2 hd d3 k0.1 k1.1 hc
theorem c_node {l r : Tr} {p : Nat × Nat} {lv : Nat} {x : Sh} (hlv : lv ≤ 2) (hx : opSh lv x = some p) (hst : ∀ S, stops (lv + 1) (x :: S)) (htk : toks (.node 0 0 (nd0 p.1 p.2) l r) (lv + 1) = toks l (lv + 1) ++ x :: toks r (lv + 2)) (hnd : nd (.node 0 0 (nd0 p.1 p.2) l r) (lv + 1) = max (nd l (lv + 1)) (nd r (lv + 2))) (hl : CP l lv) (hr : DP r (lv + 1)) : CP (.node 0 0 (nd0 p.1 p.2) l r) lv := by
  intro n ts rs deep h1 h2 h3 h4
  rw [htk] at h1 h3
  rw [hnd] at h4
  rw [List.append_assoc, List.cons_append] at h1
  rw [List.length_append, List.length_cons] at h3
  obtain ⟨r1, n1, e1, e2, e3, e4⟩ := hl n ts _ deep h1 (hst _) (by omega) (by omega)
  obtain ⟨f1, f2, _⟩ := cons_sh e1
  obtain ⟨m, rfl⟩ : ∃ k, n1 = k + 1 := ⟨n1 - 1, by omega⟩
  obtain ⟨r2, g1, g2⟩ := hr m r1.tail rs deep f2 h2 (by show 5 * (toks r (lv + 2)).length + 4 ≤ m + (lv + 1); omega) (by show deep + nd r (lv + 2) ≤ 20; omega)
  refine ⟨r2, m, g1, ?_, by omega, ?_⟩
  · rw [htk, List.length_append, List.length_cons]; omega
  · rw [e4, parse, opAt_sh, f1, hx]
    show (bnd (parse m false (lv + 1) .nil r1.tail deep) fun b r => parse m true lv (.node 0 0 (nd0 p.1 p.2) l b) r deep) = _
    rw [g2]
    rfl
theorem op_at : ∀ o, o < 4 → opSh (if o < 2 then 1 else 2) (opTk o) = some (4, o) := by decide
theorem op_stops (o : Nat) (ho : o < 4) (S : List Sh) : stops ((if o < 2 then 1 else 2) + 1) (opTk o :: S) := by
  obtain rfl | rfl | rfl | rfl : o = 0 ∨ o = 1 ∨ o = 2 ∨ o = 3 := by omega
  all_goals refine ⟨rfl, fun k hk h2 => ?_⟩
  · obtain rfl : k = 2 := by simp at hk; omega
    rfl
  · obtain rfl : k = 2 := by simp at hk; omega
    rfl
  · exfalso; simp at hk; omega
  · exfalso; simp at hk; omega
theorem or_stops (S : List Sh) : stops 1 ((2, wOr) :: S) := ⟨rfl, fun k hk h2 => by
  obtain rfl | rfl : k = 1 ∨ k = 2 := by omega
  all_goals rfl⟩
theorem word_starts {x : List UInt8} (h1 : x ≠ wOr) (h2 : x ≠ wBy) : startsT ⟨2, x, 0⟩ = true := by
  simp [startsT, isT, h1, h2]
theorem over_idx : ∀ o, o < 5 → idx (overWords.getD o []) groupWords = none ∧ idx (overWords.getD o []) overWords = some o ∧ overWords.getD o [] ≠ wOr ∧ overWords.getD o [] ≠ wBy := by decide
theorem group_idx : ∀ o, o < 4 → idx (groupWords.getD o []) groupWords = some o ∧ groupWords.getD o [] ≠ wOr ∧ groupWords.getD o [] ≠ wBy := by decide
theorem inner_word {rec : Nat → List Tok → Nat → Out Tr} {ts : List Tok} {deep : Nat} {x : List UInt8} {S : List Sh} (h : ts.map sh = (2, x) :: S) (hx : isName x = true) : innerP rec ts deep = match idx x groupWords with
    | some g => groupP rec g ts.tail deep
    | none => match idx x overWords with
      | some o => winP o ts.tail
      | none => bnd (selP ts) fun p r => .ok (leafT p, r) := by
  have h1 := (cons_sh h).1
  have hk : (hd ts).kind = 2 := congrArg Prod.fst h1
  have ht : (hd ts).txt = x := congrArg Prod.snd h1
  have n1 := name_not hx 45 (by decide)
  have n2 := name_not hx 40 (by decide)
  unfold innerP
  rw [if_neg (by omega), isT_sh, h1, if_neg (by simp [isS, n1]), isT_sh, h1, if_neg (by simp [isS, n2]), ht]
  rfl
theorem parse_print {t : Tr} (h : GT t) : AllP t := by
  induction h with
  | num v hv =>
    refine all_of4 (GT.num v hv) rfl ?_
    intro n ts rs deep hts hs hf hd
    have hts' : ts.map sh = (1, decS v) :: rs := hts
    have hd' : deep + 1 ≤ 20 := hd
    obtain ⟨n, rfl⟩ : ∃ k, n = k + 1 := ⟨n - 1, by have := toks_pos (GT.num v hv) (3 + 1); omega⟩
    obtain ⟨h1, h2, _⟩ := cons_sh hts'
    have hk : (LS.hd ts).kind = 1 := congrArg Prod.fst h1
    have ht : (LS.hd ts).txt = decS v := congrArg Prod.snd h1
    refine ⟨ts.tail, h2, ?_⟩
    rw [fac_go (starts_sh hts' (by rfl)) (by omega)]
    unfold innerP
    rw [if_pos hk, ht]
    have e : numV (decS v) = (v : Int) := by unfold numV; rw [number_decS hv]; rfl
    rw [e]
  | sel nm cs hs =>
    refine all_of4 (GT.sel nm cs hs) rfl ?_
    intro n ts rs deep hts hst hf hd
    have hts' : ts.map sh = selTk ⟨1, 0, 0, nm, cs, []⟩ ++ rs := hts
    have hd' : deep + 1 ≤ 20 := hd
    obtain ⟨n, rfl⟩ : ∃ k, n = k + 1 := ⟨n - 1, by have := toks_pos (GT.sel nm cs hs) (3 + 1); omega⟩
    have htc : ts.map sh = (2, nm) :: _ := hts'
    rw [fac_go (starts_sh htc (word_starts hs.2.2.2.1 hs.2.2.2.2.1)) (by omega), inner_word htc hs.1, hs.2.1, hs.2.2.1]
    obtain ⟨r, e1, e2⟩ := sel_sh ⟨1, 0, 0, nm, cs, []⟩ hs ts rs hts' hst.1
    refine ⟨r, e1, ?_⟩
    show (bnd (selP ts) fun p r => .ok (leafT p, r)) = _
    rw [e2]
    rfl
  | win o v nm cs ho hv1 hv2 hs =>
    refine all_of4 (GT.win o v nm cs ho hv1 hv2 hs) rfl ?_
    intro n ts rs deep hts hst hf hd
    have hts' : ts.map sh = (2, overWords.getD o []) :: (4, [40]) :: (selTk ⟨2, o, (v : Int), nm, cs, []⟩ ++ (4, [91]) :: (1, decS v) :: (4, [93]) :: (4, [41]) :: rs) := by
      rw [hts]
      show (2, overWords.getD o []) :: (4, [40]) :: (selTk ⟨2, o, (v : Int), nm, cs, []⟩ ++ [(4, [91]), (1, decS v), (4, [93]), (4, [41])]) ++ rs = _
      simp
    have hd' : deep + 1 ≤ 20 := hd
    obtain ⟨n, rfl⟩ : ∃ k, n = k + 1 := ⟨n - 1, by have := toks_pos (GT.win o v nm cs ho hv1 hv2 hs) (3 + 1); omega⟩
    obtain ⟨g1, g2, g3, g4⟩ := over_idx o ho
    obtain ⟨_, h2, _⟩ := cons_sh hts'
    obtain ⟨_, h3, _⟩ := cons_sh h2
    obtain ⟨r, e1, e2⟩ := sel_sh ⟨2, o, (v : Int), nm, cs, []⟩ hs ts.tail.tail _ h3 (by rfl)
    obtain ⟨_, f1, _⟩ := cons_sh e1
    obtain ⟨f0, f2, _⟩ := cons_sh f1
    obtain ⟨_, f3, _⟩ := cons_sh f2
    obtain ⟨_, f4, _⟩ := cons_sh f3
    refine ⟨r.tail.tail.tail.tail, f4, ?_⟩
    rw [fac_go (starts_sh hts' (word_starts g3 g4)) (by omega), inner_word hts' (over_name o ho), g1, g2]
    show winP o ts.tail = _
    unfold winP
    rw [take_sh h2 (by rfl)]
    show (bnd (selP ts.tail.tail) _) = _
    rw [e2]
    show (bnd (takeP [91] r) _) = _
    rw [take_sh e1 (by rfl)]
    show (bnd (sizeP r.tail) _) = _
    have hsz : sizeP r.tail = .ok ((v : Int), r.tail.tail) := by
      have hk : (LS.hd r.tail).kind = 1 := congrArg Prod.fst f0
      have ht : (LS.hd r.tail).txt = decS v := congrArg Prod.snd f0
      unfold sizeP
      rw [hk, ht, numI_some (number_decS hv2), if_pos ⟨rfl, by omega⟩]
    rw [hsz]
    show (bnd (takeP [93] r.tail.tail) _) = _
    rw [take_sh f2 (by rfl)]
    show (bnd (takeP [41] r.tail.tail.tail) _) = _
    rw [take_sh f3 (by rfl)]
    rfl
  | neg l hl ih =>
    refine all_of4 (GT.neg l hl) rfl ?_
    intro n ts rs deep hts hst hf hd
    have hts' : ts.map sh = (4, [45]) :: (toks l 4 ++ rs) := hts
    have hd' : deep + (1 + nd l 4) ≤ 20 := by
      have : nd (.node 0 0 (nd0 3 0) l .nil) (3 + 1) = 1 + nd l 4 := by rw [nd_un (by show 4 ≤ 4; omega)]; rfl
      rw [this] at hd; exact hd
    have hf' : 5 * ((toks l 4).length + 1) + 4 ≤ n + 3 := hf
    obtain ⟨n, rfl⟩ : ∃ k, n = k + 1 := ⟨n - 1, by omega⟩
    obtain ⟨h1, h2, _⟩ := cons_sh hts'
    have hk : (LS.hd ts).kind = 4 := congrArg Prod.fst h1
    obtain ⟨r, e1, e2⟩ := ih.1 3 (by omega) n ts.tail rs (deep + 1) h2 hst (by show 5 * (toks l 4).length + 4 ≤ n + 3; omega) (by show deep + 1 + nd l 4 ≤ 20; omega)
    refine ⟨r, e1, ?_⟩
    rw [fac_go (starts_sh hts' (by rfl)) (by omega)]
    unfold innerP
    rw [if_neg (by omega), isT_sh, h1, if_pos (by rfl)]
    show (bnd (parse n false 3 .nil ts.tail (deep + 1)) fun a r => .ok ((.node 0 0 (nd0 3 0) a .nil : Tr), r)) = _
    rw [e2]
    rfl
  | grp g ns l hg hns hl ih =>
    refine all_of4 (GT.grp g ns l hg hns hl) rfl ?_
    intro n ts rs deep hts hst hf hd
    have hts' : ts.map sh = (2, groupWords.getD g []) :: (2, wBy) :: (4, [40]) :: (sepT (ns.map fun x => [(2, x)]) ++ (4, [41]) :: (4, [40]) :: (toks l 1 ++ (4, [41]) :: rs)) := by
      rw [hts]
      show (2, groupWords.getD g []) :: (2, wBy) :: (4, [40]) :: (sepT (ns.map fun x => [(2, x)]) ++ (4, [41]) :: (4, [40]) :: (toks l 1 ++ [(4, [41])])) ++ rs = _
      simp
    have hd' : deep + (1 + nd l 1) ≤ 20 := by
      have : nd (.node 0 0 ⟨5, g, 0, [], [], ns⟩ l .nil) (3 + 1) = 1 + nd l 1 := by rw [nd_un (by show 4 ≤ 4; omega)]; rfl
      rw [this] at hd; exact hd
    have hlen : (toks (Go.Deep.BT.node 0 0 (⟨5, g, 0, [], [], ns⟩ : Nd) l .nil) (3 + 1)).length = (sepT (ns.map fun x => [(2, x)])).length + (toks l 1).length + 6 := by
      show ((2, groupWords.getD g []) :: (2, wBy) :: (4, [40]) :: (sepT (ns.map fun x => [(2, x)]) ++ (4, [41]) :: (4, [40]) :: (toks l 1 ++ [(4, [41])]))).length = _
      simp; omega
    rw [hlen] at hf
    obtain ⟨n, rfl⟩ : ∃ k, n = k + 1 := ⟨n - 1, by omega⟩
    obtain ⟨g1, g2, g3⟩ := group_idx g hg
    obtain ⟨_, h2, _⟩ := cons_sh hts'
    obtain ⟨_, h3, _⟩ := cons_sh h2
    obtain ⟨_, h4, _⟩ := cons_sh h3
    have hnl := sepT_len (fun x : List UInt8 => [((2, x) : Sh)]) (fun _ => Nat.le_refl 1) ns
    have hl4 := congrArg List.length h4
    rw [List.length_map, List.length_append] at hl4
    obtain ⟨r, e1, e2⟩ := list_sh (kindP 2) [41] (fun x : List UInt8 => [((2, x) : Sh)]) (fun x => isName x = true) (fun a _ ts S h => ⟨ts.tail, (cons_sh h).2.1, kind_sh h⟩) (fun a ha S => by
      have := name_not ha 41 (by decide)
      simp [hdS, isS, this]) (by rfl) ns [] (ts.tail.tail.tail.length + 1) ts.tail.tail.tail _ hns (by omega) (by simpa using h4)
    obtain ⟨r2, f1, f2⟩ := within_sh (ih.1 0 (by omega)) (n := n) (ts := r) (rs := rs) (deep := deep + 1) e1 (by omega) (by omega)
    refine ⟨r2, f1, ?_⟩
    rw [fac_go (starts_sh hts' (word_starts g2 g3)) (by omega), inner_word hts' (group_name g hg), g1]
    show groupP _ g ts.tail (deep + 1) = _
    unfold groupP
    rw [take_sh h2 (by rfl)]
    show (bnd (takeP [40] ts.tail.tail) _) = _
    rw [take_sh h3 (by rfl)]
    show (bnd (listP (kindP 2) [41] (ts.tail.tail.tail.length + 1) [] ts.tail.tail.tail) _) = _
    rw [e2]
    show (bnd (withinP _ r (deep + 1)) _) = _
    rw [f2]
    rfl
  | bin o l r ho hl hr ihl ihr =>
    have htn : tightN (.node 0 0 (nd0 4 o) l r) = (if o < 2 then 1 else 2) + 1 := by
      show (if o < 2 then 2 else 3) = _
      split <;> rfl
    have hle : (if o < 2 then 1 else 2) ≤ 2 := by split <;> omega
    have hT : tightT (nd0 4 o) = (if o < 2 then 1 else 2) + 1 := htn
    refine all_ofc (GT.bin o l r ho hl hr) hle htn (c_node (p := (4, o)) hle (op_at o ho) (op_stops o ho) ?_ ?_ (ihl.2 _ hle) (ihr.1 _ (by omega)))
    · rw [toks_un (t := .node 0 0 (nd0 (4, o).1 (4, o).2) l r) (Nat.le_of_eq htn.symm)]
      show toks l (tightT (nd0 4 o)) ++ opTk o :: toks r (tightT (nd0 4 o) + 1) = _
      rw [hT]
    · exact (node_ok (p := (4, o)) hT (Or.inr ⟨rfl, ho⟩) hl hr).2
  | or l r hl hr ihl ihr =>
    refine all_ofc (GT.or l r hl hr) (lv := 0) (by omega) rfl (c_node (p := (6, 0)) (x := (2, wOr)) (by omega) (by rfl) or_stops ?_ ?_ (ihl.2 0 (by omega)) (ihr.1 1 (by omega)))
    · rfl
    · exact (node_ok (p := (6, 0)) rfl (Or.inl rfl) hl hr).2
theorem read_print {q : List UInt8} {t : Tr} (h : readQ q = .ok t) : readQ (printT t 1) = if 300 < (printT t 1).length then .error (1, 0) else .ok t := by
  unfold readQ at h
  split at h
  · cases h
  split at h
  · cases h
  rename_i t' r hp
  split at h
  · split at h
    · cases h
    · rename_i hkt
      injection h with h
      subst h
      obtain ⟨g1, g2, _⟩ := parse_ok _ false 0 .nil _ 0 _ (by omega) (lexAll_ok q _ _) (fun _ => by omega) (fun h => by cases h) hp
      simp only at g1 g2
      unfold readQ
      split
      · rfl
      · have hl := lex_print g1 1
        have hlen := congrArg List.length hl
        rw [List.length_map, List.length_append, List.length_singleton] at hlen
        obtain ⟨r', e1, e2⟩ := (parse_print g1).1 0 (by omega) (10 * (lexAll (printT t' 1) ((printT t' 1).length + 1) 0).length + 5) _ _ 0 hl (stops_end 0) (by show 5 * (toks t' 1).length + 4 ≤ _; omega) g2
        rw [e2]
        have hk : (hd r').kind = 0 := congrArg Prod.fst (cons_sh e1).1
        simp only
        rw [if_pos hk, if_neg hkt]
  · cases h
end Go.Proofs.YtpbemaaghbbocaaGreatDoor
