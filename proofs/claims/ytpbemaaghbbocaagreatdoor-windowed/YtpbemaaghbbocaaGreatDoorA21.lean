/- Parts. -/
import Derived.Test.YtpbemaaghbbocaaGreatDoorA20
import Derived.Deep.LoopGhost
import Derived.Deep.QuietTactic
import Derived.BigQuiet
namespace Go.Proofs.YtpbemaaghbbocaaGreatDoor
open Go.RowKit LS
theorem vcut_any (n : Int) (w : World) : Calls Tryz.prog 192 #[.int .i64 n] w fun e w' => e = .returned (.int .i64 (cutV n)) ∧ w' = w := by
  rcases (by unfold cutV; split <;> (try split) <;> omega : (1000000000 < n ∧ cutV n = 1000000000) ∨ (n < -1000000000 ∧ cutV n = -1000000000) ∨ (-1000000000 ≤ n ∧ n ≤ 1000000000 ∧ cutV n = n)) with ⟨h, e⟩ | ⟨h, e⟩ | ⟨h1, h2, e⟩
  all_goals
    rw [e]
    have HE := hid e
    clear e
    go_enter Tryz.func192, Tryz.ntmps192
    go_wp2
    all_goals first | omega | (go_ret; exact ⟨rfl, rfl⟩) | (go_ret; exact ⟨ret_int (by omega), rfl⟩) | (obtain rfl : n = -1000000000 := (by omega); go_ret; exact ⟨rfl, rfl⟩)
set_option maxHeartbeats 4000000 in
theorem vapply_any (op : Nat) (hop : op ≤ 3) (a b : Int) (ha : vOk a) (hb : vOk b) (w : World) : Calls Tryz.prog 165 #[.int .i64 (op + 1 : Nat), .int .i64 a, .int .i64 b] w fun e w' => e = .returned (.int .i64 (twoV op a b)) ∧ w' = w := by
  obtain ⟨a1, a2⟩ := ha
  obtain ⟨b1, b2⟩ := hb
  rcases (by omega : op = 0 ∨ op = 1 ∨ op = 2 ∨ op = 3) with rfl | rfl | rfl | rfl
  · rw [twoV_0]
    go_enter Tryz.func165, Tryz.ntmps165
    go_wp2_with (go_at_call 192; refine (vcut_any _ _).mono ?_; rintro e w' ⟨rfl, rfl⟩)
    go_ret
    exact ⟨rfl, rfl⟩
  · rw [twoV_1]
    go_enter Tryz.func165, Tryz.ntmps165
    go_wp2_with (go_at_call 192; refine (vcut_any _ _).mono ?_; rintro e w' ⟨rfl, rfl⟩)
    go_ret
    exact ⟨rfl, rfl⟩
  · have hm : (Go.IntKind.i64).wrap (a * b) = a * b := by
      have h3 := mul_bound a b a1 a2 b1 b2
      generalize a * b = ab at *
      rw [IntKind.wrap_i64]; omega
    rw [twoV_2]
    go_enter Tryz.func165, Tryz.ntmps165
    go_wp2_with (go_at_call 192; refine (vcut_any _ _).mono ?_; rintro e w' ⟨rfl, rfl⟩)
    go_ret
    exact ⟨rfl, rfl⟩
  · have hq1 : (a.tdiv b).natAbs ≤ a.natAbs := by rw [Int.natAbs_tdiv]; exact Nat.div_le_self _ _
    have hq : (Go.IntKind.i64).wrap (a.tdiv b) = a.tdiv b := by rw [IntKind.wrap_i64]; omega
    by_cases h0 : b = 0
    · subst h0
      rw [twoV_30]
      go_enter Tryz.func165, Tryz.ntmps165
      go_wp2
      go_ret
      exact ⟨rfl, rfl⟩
    · rw [twoV_3 a b h0]
      go_enter Tryz.func165, Tryz.ntmps165
      go_wp2
      go_ret
      exact ⟨rfl, rfl⟩
def talC (l : List Int) : List Value := [.int .i64 l.length, .int .i64 l.sum, .int .i64 (maxL (l.headD 0) l), .int .i64 (minL (l.headD 0) l), .int .i64 (l.headD 0), .int .i64 (l.getLastD 0)]
def talV (l : List Int) : Value := .agg (talC l).toArray
theorem maxL_snoc' (m : Int) (l : List Int) (x : Int) : maxL m (l ++ [x]) = max (maxL m l) x := by rw [maxL_snoc]; split <;> omega
theorem minL_snoc' (m : Int) (l : List Int) (x : Int) : minL m (l ++ [x]) = min (minL m l) x := by rw [minL_snoc]; split <;> omega
theorem lastD_snoc (l : List Int) (x : Int) : (l ++ [x]).getLastD 0 = x := by simp [List.getLastD_eq_getLast?]
theorem sum_bd : ∀ l : List Int, (∀ x ∈ l, vOk x) → -1000000000 * (l.length : Int) ≤ l.sum ∧ l.sum ≤ 1000000000 * (l.length : Int)
  | [], _ => by simp
  | a :: l, h => by
    have h1 := sum_bd l (fun x hx => h x (List.mem_cons_of_mem _ hx))
    have h2 := h a (List.mem_cons_self ..)
    unfold vOk at h2
    rw [List.sum_cons, List.length_cons]
    omega
set_option maxHeartbeats 4000000 in
theorem twith_any (l : List Int) (x : Int) (hl : l.length ≤ 10000) (hx : ∀ y ∈ l, vOk y) (hv : vOk x) (w : World) : Calls Tryz.prog 173 #[talV l, .int .i64 x] w fun e w' => e = .returned (talV (l ++ [x])) ∧ Below w.heap.size w w' := by
  cases l with
  | nil =>
    unfold talV talC
    simp only [List.length_nil, List.sum_nil, maxL, minL, List.headD_nil, List.getLastD_nil, List.nil_append, List.length_singleton, List.sum_singleton, List.headD_cons, List.getLastD_cons, Int.lt_irrefl, if_false]
    go_enter Tryz.func173, Tryz.ntmps173
    go_wp2
    exact bodyPost_ret (v := .agg #[.int .i64 1, .int .i64 x, .int .i64 x, .int .i64 x, .int .i64 x, .int .i64 x]) (by simp [results, Tryz.results173, go_sem]) rfl ⟨by simp, (by repeat (first | exact Below.refl _ _ | assumption | refine Below.alloc ?_ (by first | omega | (simp; omega) | simp) _ | refine Below.setCell ?_ (by first | omega | (simp; omega) | simp) _ | refine below_drewN' ?_ _ | refine Below.drew ?_))⟩
  | cons a l =>
    have hs := sum_bd (a :: l) hx
    have HE : Hid (talV ((a :: l) ++ [x]) = .agg #[.int .i64 ((l.length : Int) + 1 + 1), .int .i64 ((a :: l).sum + x), .int .i64 (max (maxL a (a :: l)) x), .int .i64 (min (minL a (a :: l)) x), .int .i64 a, .int .i64 x]) := hid (by
      unfold talV talC
      rw [maxL_snoc', minL_snoc', List.sum_append, lastD_snoc]
      simp)
    unfold vOk at hv
    rw [HE.out]
    unfold talV talC
    rw [List.length_cons] at *
    simp only [List.headD_cons]
    generalize (a :: l).sum = sm at *
    generalize maxL a (a :: l) = mx at *
    generalize minL a (a :: l) = mn at *
    generalize (a :: l).getLastD 0 = la at *
    generalize l.length = ln at *
    have hne : ((ln : Int) + 1 == 0) = false := by rw [beq_eq_false_iff_ne]; omega
    push_cast
    have HS := hid hs
    clear hs
    have hsm : -10000000000000 ≤ sm ∧ sm ≤ 10000000000000 := by have := HS.out; omega
    rcases (by omega : (mx < x ∧ max mx x = x) ∨ (x ≤ mx ∧ max mx x = mx)) with ⟨g1, e1⟩ | ⟨g1, e1⟩ <;> rcases (by omega : (x < mn ∧ min mn x = x) ∨ (mn ≤ x ∧ min mn x = mn)) with ⟨g2, e2⟩ | ⟨g2, e2⟩
    · rw [e1, e2]
      go_enter Tryz.func173, Tryz.ntmps173
      go_wp2
      all_goals first | omega | exact bodyPost_ret (v := .agg #[.int .i64 ((ln : Int) + 1 + 1), .int .i64 (sm + x), .int .i64 x, .int .i64 x, .int .i64 a, .int .i64 x]) (by simp [results, Tryz.results173, go_sem]) rfl ⟨rfl, (by repeat (first | exact Below.refl _ _ | assumption | refine Below.alloc ?_ (by first | omega | (simp; omega) | simp) _ | refine Below.setCell ?_ (by first | omega | (simp; omega) | simp) _ | refine below_drewN' ?_ _ | refine Below.drew ?_))⟩
    · rw [e1, e2]
      go_enter Tryz.func173, Tryz.ntmps173
      go_wp2
      all_goals first | omega | exact bodyPost_ret (v := .agg #[.int .i64 ((ln : Int) + 1 + 1), .int .i64 (sm + x), .int .i64 x, .int .i64 mn, .int .i64 a, .int .i64 x]) (by simp [results, Tryz.results173, go_sem]) rfl ⟨rfl, (by repeat (first | exact Below.refl _ _ | assumption | refine Below.alloc ?_ (by first | omega | (simp; omega) | simp) _ | refine Below.setCell ?_ (by first | omega | (simp; omega) | simp) _ | refine below_drewN' ?_ _ | refine Below.drew ?_))⟩
    · rw [e1, e2]
      go_enter Tryz.func173, Tryz.ntmps173
      go_wp2
      all_goals first | omega | exact bodyPost_ret (v := .agg #[.int .i64 ((ln : Int) + 1 + 1), .int .i64 (sm + x), .int .i64 mx, .int .i64 x, .int .i64 a, .int .i64 x]) (by simp [results, Tryz.results173, go_sem]) rfl ⟨rfl, (by repeat (first | exact Below.refl _ _ | assumption | refine Below.alloc ?_ (by first | omega | (simp; omega) | simp) _ | refine Below.setCell ?_ (by first | omega | (simp; omega) | simp) _ | refine below_drewN' ?_ _ | refine Below.drew ?_))⟩
    · rw [e1, e2]
      go_enter Tryz.func173, Tryz.ntmps173
      go_wp2
      all_goals first | omega | exact bodyPost_ret (v := .agg #[.int .i64 ((ln : Int) + 1 + 1), .int .i64 (sm + x), .int .i64 mx, .int .i64 mn, .int .i64 a, .int .i64 x]) (by simp [results, Tryz.results173, go_sem]) rfl ⟨rfl, (by repeat (first | exact Below.refl _ _ | assumption | refine Below.alloc ?_ (by first | omega | (simp; omega) | simp) _ | refine Below.setCell ?_ (by first | omega | (simp; omega) | simp) _ | refine below_drewN' ?_ _ | refine Below.drew ?_))⟩
theorem cutV_id {n : Int} (h : vOk n) : cutV n = n := by unfold vOk at h; unfold cutV; split <;> (try split) <;> omega
theorem maxL_ok : ∀ (l : List Int) (m : Int), vOk m → (∀ x ∈ l, vOk x) → vOk (maxL m l)
  | [], m, h, _ => h
  | a :: l, m, h, hl => by
    rw [maxL]
    refine maxL_ok l _ ?_ (fun x hx => hl x (List.mem_cons_of_mem _ hx))
    split
    · exact hl a (List.mem_cons_self ..)
    · exact h
theorem minL_ok : ∀ (l : List Int) (m : Int), vOk m → (∀ x ∈ l, vOk x) → vOk (minL m l)
  | [], m, h, _ => h
  | a :: l, m, h, hl => by
    rw [minL]
    refine minL_ok l _ ?_ (fun x hx => hl x (List.mem_cons_of_mem _ hx))
    split
    · exact hl a (List.mem_cons_self ..)
    · exact h
theorem headD_ok {l : List Int} (hl : ∀ x ∈ l, vOk x) : vOk (l.headD 0) := by
  cases l with
  | nil => unfold vOk; decide
  | cons a l => exact hl a (List.mem_cons_self ..)
theorem lastD_ok {l : List Int} (hl : ∀ x ∈ l, vOk x) : vOk (l.getLastD 0) := by
  cases l with
  | nil => unfold vOk; decide
  | cons a l => rw [List.getLastD_cons, ← List.getLast_eq_getLastD (a := a) (by simp : a :: l ≠ [])]; exact hl _ (List.getLast_mem _)
set_option maxHeartbeats 4000000 in
theorem ttell_any (op : Nat) (hop : op ≤ 4) (l : List Int) (hl : l.length ≤ 10000) (hx : ∀ y ∈ l, vOk y) (w : World) : Calls Tryz.prog 174 #[talV l, .int .i64 op] w fun e w' => e = .returned (.int .i64 (cutV (toldV op l))) ∧ Below w.heap.size w w' := by
  have h1 := headD_ok hx
  have h2 := lastD_ok hx
  have e1 : cutV (maxL (l.headD 0) l) = maxL (l.headD 0) l := cutV_id (maxL_ok l _ h1 hx)
  have e2 : cutV (minL (l.headD 0) l) = minL (l.headD 0) l := cutV_id (minL_ok l _ h1 hx)
  have e3 : cutV (l.length : Int) = l.length := cutV_id (by unfold vOk; omega)
  unfold toldV talV talC
  unfold vOk at h1 h2
  generalize maxL (l.headD 0) l = mx at *
  generalize minL (l.headD 0) l = mn at *
  generalize l.headD 0 = hd at *
  generalize l.getLastD 0 = la at *
  generalize l.sum = sm at *
  generalize l.length = ln at *
  clear hx
  rcases (by omega : op = 0 ∨ op = 1 ∨ op = 2 ∨ op = 3 ∨ op = 4) with rfl | rfl | rfl | rfl | rfl
  · simp only [if_true]
    go_enter Tryz.func174, Tryz.ntmps174
    go_wp2_with (go_at_call 192; refine (vcut_any _ _).mono ?_; rintro e w' ⟨rfl, rfl⟩)
    go_ret
    exact ⟨rfl, (by repeat (first | exact Below.refl _ _ | assumption | refine Below.alloc ?_ (by first | omega | (simp; omega) | simp) _ | refine Below.setCell ?_ (by first | omega | (simp; omega) | simp) _ | refine below_drewN' ?_ _ | refine Below.drew ?_))⟩
  · simp only [Nat.one_ne_zero, if_false, if_true, e1]
    go_enter Tryz.func174, Tryz.ntmps174
    go_wp2
    go_ret
    exact ⟨rfl, (by repeat (first | exact Below.refl _ _ | assumption | refine Below.alloc ?_ (by first | omega | (simp; omega) | simp) _ | refine Below.setCell ?_ (by first | omega | (simp; omega) | simp) _ | refine below_drewN' ?_ _ | refine Below.drew ?_))⟩
  · rw [if_neg (by decide), if_neg (by decide), if_pos rfl, e2]
    go_enter Tryz.func174, Tryz.ntmps174
    go_wp2
    go_ret
    exact ⟨rfl, (by repeat (first | exact Below.refl _ _ | assumption | refine Below.alloc ?_ (by first | omega | (simp; omega) | simp) _ | refine Below.setCell ?_ (by first | omega | (simp; omega) | simp) _ | refine below_drewN' ?_ _ | refine Below.drew ?_))⟩
  · rw [if_neg (by decide), if_neg (by decide), if_neg (by decide), if_pos rfl, e3]
    go_enter Tryz.func174, Tryz.ntmps174
    go_wp2
    go_ret
    exact ⟨rfl, (by repeat (first | exact Below.refl _ _ | assumption | refine Below.alloc ?_ (by first | omega | (simp; omega) | simp) _ | refine Below.setCell ?_ (by first | omega | (simp; omega) | simp) _ | refine below_drewN' ?_ _ | refine Below.drew ?_))⟩
  · rw [if_neg (by decide), if_neg (by decide), if_neg (by decide), if_neg (by decide)]
    go_enter Tryz.func174, Tryz.ntmps174
    go_wp2_with (go_at_call 192; refine (vcut_any _ _).mono ?_; rintro e w' ⟨rfl, rfl⟩)
    go_ret
    exact ⟨rfl, (by repeat (first | exact Below.refl _ _ | assumption | refine Below.alloc ?_ (by first | omega | (simp; omega) | simp) _ | refine Below.setCell ?_ (by first | omega | (simp; omega) | simp) _ | refine below_drewN' ?_ _ | refine Below.drew ?_))⟩
theorem lstr_any (a : Option Addr) (n c : Nat) (tx : ByteArray) (w : World) : Calls Tryz.prog 124 #[.agg #[.slice a n c, .string tx]] w fun e w' => e = .returned (.string tx) ∧ ∃ o, w' = w.alloc o := by
  go_enter Tryz.func124, Tryz.ntmps124
  go_wp2
  go_ret
  exact ⟨rfl, _, rfl⟩
structure Itm where
  a : Option Addr
  n : Nat
  c : Nat
  tx : ByteArray
  qs : List (ByteArray × ByteArray)
  v : Int
instance : Inhabited Itm := ⟨⟨none, 0, 0, ⟨#[]⟩, [], 0⟩⟩
def Itm.enc (i : Itm) : List Value := [.slice i.a i.n i.c, .string i.tx, .int .i64 i.v]
def Itm.labs (i : Itm) : List Lab := i.qs.map blP
def Itm.el (i : Itm) : El := (i.labs, i.v)
structure LbOk (w : World) (a : Option Addr) (n c : Nat) (tx : ByteArray) (qs : List (ByteArray × ByteArray)) : Prop where
  row : LabelRow w 0 (.slice a n c) n qs
  txt : bl tx = wrt (qs.map blP)
  wf : LabsWf (qs.map blP)
structure ItmOk (w : World) (i : Itm) : Prop where
  lb : LbOk w i.a i.n i.c i.tx i.qs
  vok : vOk i.v
def encs (l : List Itm) : List Value := (l.map Itm.enc).flatten
theorem encs_length (l : List Itm) : (encs l).length = l.length * 3 := by
  induction l with
  | nil => rfl
  | cons a l ih => unfold encs at *; rw [List.map_cons, List.flatten_cons, List.length_append, ih, List.length_cons]; simp [Itm.enc]; omega
theorem encs_append (l m : List Itm) : encs (l ++ m) = encs l ++ encs m := by unfold encs; rw [List.map_append, List.flatten_append]
theorem encs_get (l : List Itm) (j : Nat) (hj : j < l.length) : (encs l)[j * 3]? = some (.slice l[j].a l[j].n l[j].c) ∧ (encs l)[j * 3 + 1]? = some (.string l[j].tx) ∧ (encs l)[j * 3 + 2]? = some (.int .i64 l[j].v) := by
  induction l generalizing j with
  | nil => simp at hj
  | cons a l ih =>
    have e : encs (a :: l) = .slice a.a a.n a.c :: .string a.tx :: .int .i64 a.v :: encs l := rfl
    cases j with
    | zero => rw [e]; exact ⟨rfl, rfl, rfl⟩
    | succ j =>
      have h := ih j (by simpa using hj)
      rw [e, show (j + 1) * 3 = j * 3 + 1 + 1 + 1 by omega]
      simpa using h
structure VecV (w : World) (v : Value) (l : List El) (is : List Itm) : Prop where
  row : w.ownsRow 0 255 3 v is.length (encs is)
  els : is.map Itm.el = l
  ok : ∀ i ∈ is, ItmOk w i
  len : is.length ≤ 1000
def KeepsB (e : TypeId) (w w' : World) : Prop := ∀ (b : Nat) (c : Array Value) (T : TypeId) (fr : Nat × Nat), T ≠ e → w.heap[b]? = some (.cells c T fr) → w'.heap[b]? = some (.cells c T fr)
def KeepsC (w w' : World) : Prop := ∀ (b : Nat) (c : Array Value) (T : TypeId) (fr : Nat × Nat), w.heap[b]? = some (.cells c T fr) → w'.heap[b]? = some (.cells c T fr)
theorem KeepsC.refl (w : World) : KeepsC w w := fun _ _ _ _ h => h
theorem KeepsC.trans {a b c : World} (h : KeepsC a b) (k : KeepsC b c) : KeepsC a c := fun x d T fr hx => k x d T fr (h x d T fr hx)
theorem KeepsC.below {w w' : World} (h : Below w.heap.size w w') : KeepsC w w' := fun b _ _ _ hb => (h.block b (Array.getElem?_eq_some_iff.1 hb).1).trans hb
theorem KeepsC.b {w w' : World} (h : KeepsC w w') (e : TypeId) : KeepsB e w w' := fun b c T fr _ hb => h b c T fr hb
theorem KeepsB.trans {e : TypeId} {a b c : World} (h : KeepsB e a b) (k : KeepsB e b c) : KeepsB e a c := fun x d T fr he hx => k x d T fr he (h x d T fr he hx)
theorem KeepsB.below {w w' : World} (h : Below w.heap.size w w') (e : TypeId) : KeepsB e w w' := (KeepsC.below h).b e
theorem KeepsB.grown {w w' : World} {b : Nat} {e : TypeId} {s : Nat} {v : Value} {n : Nat} {xs : List Value} (hg : w.grownBy w' v.ownBlock) (hv : w.ownsRow b e s v n xs) : KeepsB e w w' := fun k _ _ _ hT hk => (hg.block k (Array.getElem?_eq_some_iff.1 hk).1 (own_ne_block hv hk hT)).trans hk
theorem KeepsB.own {t : TypeId} {w w' : World} (h : KeepsB t w w') {base : Nat} {e : TypeId} {size : Nat} {v : Value} {n : Nat} {xs : List Value} (ho : w.ownsRow base e size v n xs) (he : e ≠ t) : w'.ownsRow base e size v n xs := by
  refine ⟨ho.1, ?_⟩
  rcases ho.2 with h2 | ⟨g, cap, cur, hv, hg, hh, r⟩
  · exact Or.inl h2
  · exact Or.inr ⟨g, cap, cur, hv, hg, h _ _ _ _ he hh, r⟩
theorem KeepsC.own {w w' : World} (h : KeepsC w w') {base : Nat} {e : TypeId} {size : Nat} {v : Value} {n : Nat} {xs : List Value} (ho : w.ownsRow base e size v n xs) : w'.ownsRow base e size v n xs := by
  refine ⟨ho.1, ?_⟩
  rcases ho.2 with h2 | ⟨g, cap, cur, hv, hg, hh, r⟩
  · exact Or.inl h2
  · exact Or.inr ⟨g, cap, cur, hv, hg, h _ _ _ _ hh, r⟩
theorem KeepsC.cell {w w' : World} (h : KeepsC w w') {b o : Nat} {u : Value} (hc : w.cell? ⟨b, o, none⟩ = some u) : w'.cell? ⟨b, o, none⟩ = some u := by
  unfold World.cell? at hc ⊢
  cases hb : w.heap[b]? with
  | none => simp [hb] at hc
  | some ob =>
    cases ob with
    | cells c T fr => simp only [h _ _ _ _ hb, hb] at hc ⊢; exact hc
    | _ => simp [hb] at hc
theorem LbOk.kb {t : TypeId} {w w' : World} {a : Option Addr} {n c : Nat} {tx : ByteArray} {qs : List (ByteArray × ByteArray)} (h : LbOk w a n c tx qs) (hk : KeepsB t w w') (ht : 320 ≠ t) : LbOk w' a n c tx qs := ⟨⟨hk.own h.row.1 ht, h.row.2⟩, h.txt, h.wf⟩
theorem ItmOk.kb {t : TypeId} {w w' : World} {i : Itm} (h : ItmOk w i) (hk : KeepsB t w w') (ht : 320 ≠ t) : ItmOk w' i := ⟨h.lb.kb hk ht, h.vok⟩
theorem LbOk.keepsC {w w' : World} {a : Option Addr} {n c : Nat} {tx : ByteArray} {qs : List (ByteArray × ByteArray)} (h : LbOk w a n c tx qs) (hk : KeepsC w w') : LbOk w' a n c tx qs := ⟨⟨hk.own h.row.1, h.row.2⟩, h.txt, h.wf⟩
theorem ItmOk.keepsC {w w' : World} {i : Itm} (h : ItmOk w i) (hk : KeepsC w w') : ItmOk w' i := ⟨h.lb.keepsC hk, h.vok⟩
theorem ItmOk.below {w w' : World} {i : Itm} (h : ItmOk w i) (hb : Below w.heap.size w w') : ItmOk w' i := h.keepsC (KeepsC.below hb)
theorem VecV.keepsC {w w' : World} {v : Value} {l : List El} {is : List Itm} (h : VecV w v l is) (hk : KeepsC w w') : VecV w' v l is := ⟨hk.own h.row, h.els, fun i hi => (h.ok i hi).keepsC hk, h.len⟩
theorem VecV.below {w w' : World} {v : Value} {l : List El} {is : List Itm} (h : VecV w v l is) (hb : Below w.heap.size w w') : VecV w' v l is := h.keepsC (KeepsC.below hb)
theorem VecV.len' {w : World} {v : Value} {l : List El} {is : List Itm} (h : VecV w v l is) : l.length = is.length := by rw [← h.els, List.length_map]
def ValP (w : World) (v : Value) : VV → Prop
  | .sc n => v = .iface 251 (.int .i64 n) ∧ vOk n
  | .vec l => ∃ s is, v = .iface 253 s ∧ VecV w s l is
theorem ValP.keepsC {w w' : World} {v : Value} {V : VV} (h : ValP w v V) (hk : KeepsC w w') : ValP w' v V := by
  cases V with
  | sc n => exact h
  | vec l => obtain ⟨s, is, h1, h2⟩ := h; exact ⟨s, is, h1, h2.keepsC hk⟩
theorem Tryz.infoItem : (Tryz.prog.info? 255).map (fun i => (i.zero, i.size, i.bytes)) = some (some (.agg #[.slice none 0 0, .string ByteArray.empty, .int .i64 0]), 3, 48) := by kernel_rfl
def SamAt (w : World) (g off : Nat) (l : List (Int × Int)) : Prop := ∃ c fr, w.heap[g]? = some (.cells c 313 fr) ∧ ∀ j (h : j < l.length), c[off + j * 2]? = some (.int .i64 l[j].1) ∧ c[off + j * 2 + 1]? = some (.int .i64 l[j].2)
theorem SamAt.cells {w : World} {g off : Nat} {l : List (Int × Int)} (h : SamAt w g off l) (j : Nat) (hj : j < l.length) : w.cell? ⟨g, off + j * 2, none⟩ = some (.int .i64 l[j].1) ∧ w.cell? ⟨g, off + j * 2 + 1, none⟩ = some (.int .i64 l[j].2) := by
  obtain ⟨c, fr, h1, h2⟩ := h
  obtain ⟨h3, h4⟩ := h2 j hj
  constructor <;> simp [World.cell?, h1, h3, h4]
def SamV (w : World) (av : Option Addr) (l : List (Int × Int)) : Prop := l = [] ∨ ∃ g off, av = some ⟨g, off, none⟩ ∧ SamAt w g off l
theorem SamV.kb {t : TypeId} {w w' : World} {av : Option Addr} {l : List (Int × Int)} (h : SamV w av l) (hk : KeepsB t w w') (ht : 313 ≠ t) : SamV w' av l := by
  rcases h with h | ⟨g, off, h1, c, fr, h2, h3⟩
  · exact Or.inl h
  · exact Or.inr ⟨g, off, h1, c, fr, hk _ _ _ _ ht h2, h3⟩
theorem SamV.keepsC {w w' : World} {av : Option Addr} {l : List (Int × Int)} (h : SamV w av l) (hk : KeepsC w w') : SamV w' av l := by
  rcases h with h | ⟨g, off, h1, c, fr, h2, h3⟩
  · exact Or.inl h
  · exact Or.inr ⟨g, off, h1, c, fr, hk _ _ _ _ h2, h3⟩
theorem SamV.below {w w' : World} {av : Option Addr} {l : List (Int × Int)} (h : SamV w av l) (hb : Below w.heap.size w w') : SamV w' av l := h.keepsC (KeepsC.below hb)
set_option maxHeartbeats 2000000 in
theorem upto1_any (b1 b2 g off n cp i : Nat) (t x : Int) (w : World) (hi : i < n) (h1 : w.cell? ⟨b1, 0, none⟩ = some (.slice (some ⟨g, off, none⟩) n cp)) (h2 : w.cell? ⟨b2, 0, none⟩ = some (.int .i64 t)) (hc : w.cell? ⟨g, off + i * 2, none⟩ = some (.int .i64 x)) :
    Calls Tryz.prog 231 #[.int .i64 i, .pointer (some ⟨b1, 0, none⟩), .pointer (some ⟨b2, 0, none⟩)] w fun e w' => e = .returned (.bool (decide (t < x))) ∧ Below w.heap.size w w' := by
  have hiz : (i : Int) < (n : Int) := by omega
  go_enter Tryz.func231, Tryz.ntmps231
  go_wp2
  go_region
  all_goals go_wp2
  all_goals go_ret
  all_goals exact ⟨by first | rfl | simp, (by repeat (first | exact Below.refl _ _ | assumption | refine Below.alloc ?_ (by first | omega | (simp; omega) | simp) _ | refine Below.setCell ?_ (by first | omega | (simp; omega) | simp) _ | refine below_drewN' ?_ _ | refine Below.drew ?_))⟩
theorem cntLe_at {l : List (Int × Int)} {t : Int} {k : Nat} (hk : k ≤ l.length) (h1 : ∀ j (h : j < l.length), j < k → l[j].1 ≤ t) (h2 : ∀ j (h : j < l.length), k ≤ j → t < l[j].1) : cntLe l t = k := by
  have e : l = l.take k ++ l.drop k := (List.take_append_drop k l).symm
  unfold cntLe
  rw [e, List.countP_append]
  have a1 : (l.take k).countP (fun x => decide (x.1 ≤ t)) = k := by
    rw [List.countP_eq_length.2 (fun x hx => ?_), List.length_take, Nat.min_eq_left hk]
    obtain ⟨j, hj, rfl⟩ := List.mem_iff_getElem.1 hx
    rw [List.length_take] at hj
    rw [List.getElem_take]
    simpa using h1 j (by omega) (by omega)
  have a2 : (l.drop k).countP (fun x => decide (x.1 ≤ t)) = 0 := by
    rw [List.countP_eq_zero]
    intro x hx
    obtain ⟨j, hj, rfl⟩ := List.mem_iff_getElem.1 hx
    rw [List.length_drop] at hj
    rw [List.getElem_drop]
    have := h2 (k + j) (by omega) (by omega)
    simp; omega
  rw [a1, a2]; rfl
theorem TmS.get {l : List (Int × Int)} (h : TmS l) {i j : Nat} (hi : i ≤ j) (hj : j < l.length) : l[i].1 ≤ l[j].1 := by
  rcases Nat.lt_or_ge i j with h1 | h1
  · exact Int.le_of_lt (List.pairwise_iff_getElem.1 h i j (by omega) hj h1)
  · obtain rfl : i = j := by omega
    exact Int.le_refl _
set_option maxRecDepth 100000 in
set_option maxHeartbeats 4000000 in
theorem search_any (b1 b2 cp : Nat) (av : Option Addr) (l : List (Int × Int)) (t : Int) (w : World) (hs : TmS l) (hlen : l.length ≤ 6001) (h1 : w.cell? ⟨b1, 0, none⟩ = some (.slice av l.length cp)) (h2 : w.cell? ⟨b2, 0, none⟩ = some (.int .i64 t)) (hS : SamV w av l) :
    Calls Tryz.prog 230 #[.int .i64 l.length, .func (.func 231) #[] #[.pointer (some ⟨b1, 0, none⟩), .pointer (some ⟨b2, 0, none⟩)]] w fun e w' => e = .returned (.int .i64 (cntLe l t : Nat)) ∧ Below w.heap.size w w' := by
  have HS : Hid (TmS l) := hs
  have HV : Hid (SamV w av l) := hS
  have H1 : Hid (w.cell? ⟨b1, 0, none⟩ = some (.slice av l.length cp)) := h1
  have H2 : Hid (w.cell? ⟨b2, 0, none⟩ = some (.int .i64 t)) := h2
  obtain ⟨r, hr⟩ : ∃ r, r = cntLe l t := ⟨_, rfl⟩
  rw [← hr]
  have HR : Hid (r = cntLe l t) := hr
  obtain ⟨n, hn⟩ : ∃ n, n = l.length := ⟨_, rfl⟩
  rw [← hn] at hlen ⊢
  have HN : Hid (n = l.length) := hn
  clear hs hS h1 h2 hr hn
  go_enter Tryz.func230, Tryz.ntmps230
  go_wp2
  go_loopg [5, 6] n (fun kx s5 s6 wr => ∃ lo hi : Nat, s5 = .int .i64 lo ∧ s6 = .int .i64 hi ∧ lo ≤ hi ∧ hi ≤ n ∧ hi - lo ≤ kx ∧ Hid (Below w.heap.size w wr) ∧ Hid ((∀ j (h : j < l.length), j < lo → l[j].1 ≤ t) ∧ (∀ j (h : j < l.length), hi ≤ j → t < l[j].1)))
  case atStart => exact ⟨0, n, rfl, rfl, Nat.zero_le _, Nat.le_refl _, by omega, hid (Below.refl _ _), hid ⟨fun j _ h => absurd h (Nat.not_lt_zero _), fun j h h' => by have := HN.out; omega⟩⟩
  case round =>
    obtain ⟨lo, hi, rfl, rfl, hlh, hin, hg, HB, I⟩ := hrel
    by_cases hlt : lo < hi
    · have hml : (lo + hi) / 2 < l.length := by have := HN.out; omega
      have hne : l ≠ [] := by intro e; rw [e] at hml; simp at hml
      obtain ⟨g, off, rfl, hA⟩ := HV.out.resolve_left hne
      have k1 := (KeepsC.below HB.out).cell H1.out
      have k2 := (KeepsC.below HB.out).cell H2.out
      have k3 := (KeepsC.below HB.out).cell (hA.cells _ hml).1
      rw [← HN.out] at k1
      have hc := upto1_any b1 b2 g off n cp ((lo + hi) / 2) t (l[(lo + hi) / 2]).1 wr (by omega) k1 k2 k3
      have HM : Hid (∀ i (h : i < l.length), i ≤ (lo + hi) / 2 → l[i].1 ≤ l[(lo + hi) / 2].1) := hid (fun i h h' => HS.out.get h' hml)
      have HM2 : Hid (∀ i (h : i < l.length), (lo + hi) / 2 ≤ i → l[(lo + hi) / 2].1 ≤ l[i].1) := hid (fun i h h' => HS.out.get h' h)
      rw [show (((lo + hi) / 2 : Nat) : Int) = ((lo : Int) + (hi : Int)) / 2 by omega] at hc
      clear k1 k2 k3 hA
      generalize (l[(lo + hi) / 2]).1 = x at *
      by_cases hx : t < x
      · rw [decide_eq_true hx] at hc
        go_wp2_with (go_at_call 231; refine hc.mono ?_; rintro e w' ⟨rfl, hb⟩)
        go_roundg ((lo + hi) / 2 - lo)
        case measure => omega
        case rel =>
          exact ⟨lo, (lo + hi) / 2, rfl, by rw [show ((lo : Int) + (hi : Int)) / 2 = (((lo + hi) / 2 : Nat) : Int) by omega], by omega, by omega, Nat.le_refl _, hid (HB.out.trans (hb.mono HB.out.size)), hid ⟨I.out.1, fun j h h' => Int.lt_of_lt_of_le hx (HM2.out j h h')⟩⟩
      · rw [decide_eq_false hx] at hc
        go_wp2_with (go_at_call 231; refine hc.mono ?_; rintro e w' ⟨rfl, hb⟩)
        go_roundg (hi - ((lo + hi) / 2 + 1))
        case measure => omega
        case rel =>
          exact ⟨(lo + hi) / 2 + 1, hi, by rw [show ((lo : Int) + (hi : Int)) / 2 + 1 = (((lo + hi) / 2 + 1 : Nat) : Int) by omega], rfl, by omega, hin, Nat.le_refl _, hid (HB.out.trans (hb.mono HB.out.size)), hid ⟨fun j h h' => Int.le_trans (HM.out j h (by omega)) (by omega), I.out.2⟩⟩
    · obtain rfl : hi = lo := by omega
      have e : r = hi := by rw [HR.out]; exact cntLe_at (by have := HN.out; omega) I.out.1 I.out.2
      subst e
      have hb := HB.out
      go_wp2
      go_ret
      exact ⟨rfl, hb⟩
set_option maxHeartbeats 2000000 in
theorem upto_any (cp : Nat) (av : Option Addr) (l : List (Int × Int)) (t : Int) (w : World) (hs : TmS l) (hlen : l.length ≤ 6001) (hS : SamV w av l) :
    Calls Tryz.prog 202 #[.slice av l.length cp, .int .i64 t] w fun e w' => e = .returned (.int .i64 (cntLe l t : Nat)) ∧ Below w.heap.size w w' := by
  have HS : Hid (∀ W, Below w.heap.size w W → SamV W av l) := hid (fun W h => hS.below h)
  have HT : Hid (TmS l) := hs
  clear hS hs
  go_enter Tryz.func202, Tryz.ntmps202
  go_wp2_with fail
  refine (search_any _ _ cp av l t _ HT.out hlen ?_ ?_ (HS.out _ (by repeat (first | exact Below.refl _ _ | assumption | refine Below.alloc ?_ (by first | omega | (simp; omega) | simp) _ | refine Below.setCell ?_ (by first | omega | (simp; omega) | simp) _ | refine below_drewN' ?_ _ | refine Below.drew ?_)))).mono ?_
  · simp
  · simp
  rintro e w' ⟨rfl, hb⟩
  have hb' : Below w.heap.size w w' := Below.trans (by repeat (first | exact Below.refl _ _ | assumption | refine Below.alloc ?_ (by first | omega | (simp; omega) | simp) _ | refine Below.setCell ?_ (by first | omega | (simp; omega) | simp) _ | refine below_drewN' ?_ _ | refine Below.drew ?_)) (hb.mono (by simp; omega))
  go_wp2
  go_ret
  exact ⟨rfl, hb'⟩
theorem within_get {l : List (Int × Int)} (h : TmS l) {n t : Int} (hn : 0 ≤ n) : (withinV l n t).length = cntLe l t - cntLe l (t - n) ∧ ∀ j (hj : j < (withinV l n t).length), ∃ h2 : cntLe l (t - n) + j < l.length, (withinV l n t)[j] = l[cntLe l (t - n) + j] := by
  have e := within_row h (t := t) hn
  have hl : (withinV l n t).length = cntLe l t - cntLe l (t - n) := by
    rw [← e, List.length_drop, List.length_take, Nat.min_eq_left (cntLe_le l t)]
  refine ⟨hl, fun j hj => ?_⟩
  have := cntLe_le l t
  refine ⟨by omega, ?_⟩
  have e2 : (withinV l n t)[j]? = l[cntLe l (t - n) + j]? := by
    rw [← e, List.getElem?_drop, List.getElem?_take_of_lt (by omega)]
  rw [List.getElem?_eq_getElem hj, List.getElem?_eq_getElem (by omega)] at e2
  exact Option.some.inj e2
set_option maxHeartbeats 4000000 in
theorem pwithin_any (cp : Nat) (av : Option Addr) (l : List (Int × Int)) (n t : Int) (w : World) (hs : TmS l) (hlen : l.length ≤ 6001) (hcp : l.length ≤ cp) (hn0 : 0 ≤ n) (hn1 : n ≤ 1000) (ht0 : -1000000 ≤ t) (ht1 : t ≤ 1000000) (hS : SamV w av l) :
    Calls Tryz.prog 177 #[.slice av l.length cp, .int .i64 n, .int .i64 t] w fun e w' => ∃ av' cp', e = .returned (.slice av' (withinV l n t).length cp') ∧ Hid (SamV w' av' (withinV l n t)) ∧ Below w.heap.size w w' := by
  have hG := within_get hs (t := t) hn0
  have hm : cntLe l (t - n) ≤ cntLe l t := cntLe_mono l (by omega)
  have hle := cntLe_le l t
  have HG : Hid _ := hid hG
  have HT : Hid (TmS l) := hs
  have HS : Hid (SamV w av l) := hS
  have HL : Hid (l.length ≤ 6001) := hlen
  have hlz : (withinV l n t).length = cntLe l t - cntLe l (t - n) := hG.1
  clear hG hs hS
  have U1 : Hid (∀ W, Below w.heap.size w W → Calls Tryz.prog 202 #[.slice av l.length cp, .int .i64 (t - n)] W fun e w' => e = .returned (.int .i64 (cntLe l (t - n) : Nat)) ∧ Below W.heap.size W w') := hid (fun W hW => upto_any cp av l (t - n) W HT.out HL.out (HS.out.below hW))
  have U2 : Hid (∀ W, Below w.heap.size w W → Calls Tryz.prog 202 #[.slice av l.length cp, .int .i64 t] W fun e w' => e = .returned (.int .i64 (cntLe l t : Nat)) ∧ Below W.heap.size W w') := hid (fun W hW => upto_any cp av l t W HT.out HL.out (HS.out.below hW))
  obtain ⟨lo, hlo⟩ : ∃ lo, cntLe l (t - n) = lo := ⟨_, rfl⟩
  obtain ⟨hi, hhi⟩ : ∃ hi, cntLe l t = hi := ⟨_, rfl⟩
  obtain ⟨ln, hln⟩ : ∃ ln, l.length = ln := ⟨_, rfl⟩
  obtain ⟨wn, hwn⟩ : ∃ wn, (withinV l n t).length = wn := ⟨_, rfl⟩
  rw [hlo, hhi] at HG
  rw [hlo, hhi, hwn] at hlz
  rw [hwn]
  rw [hln, hlo] at U1
  rw [hln, hhi] at U2
  rw [hlo, hhi] at hm
  rw [hhi, hln] at hle
  rw [hln] at hlen hcp ⊢
  have HLN : Hid (l.length = ln) := hln
  have HWN : Hid ((withinV l n t).length = wn) := hwn
  clear hlo hhi hln hwn HL
  subst hlz
  have hav : av = none → hi = 0 ∧ lo = 0 := by
    intro e
    rcases HS.out with h | ⟨g, off, h1, _⟩
    · have := HLN.out; rw [h] at this; simp at this; omega
    · rw [e] at h1; cases h1
  cases av with
  | none =>
    obtain ⟨rfl, rfl⟩ := hav rfl
    have HN : Hid (withinV l n t = []) := hid (List.eq_nil_of_length_eq_zero (by have := HWN.out; omega))
    go_enter Tryz.func177, Tryz.ntmps177
    go_wp2_with fail
    refine (U1.out _ (Below.refl _ _)).mono ?_
    rintro e w1 ⟨rfl, hb1⟩
    go_wp2_with fail
    refine (U2.out _ hb1).mono ?_
    rintro e w2 ⟨rfl, hb2⟩
    have hb3 : Below w.heap.size w w2 := hb1.trans (hb2.mono hb1.size)
    go_wp2
    go_ret
    exact ⟨_, _, rfl, hid (Or.inl HN.out), hb3⟩
  | some a0 =>
    go_enter Tryz.func177, Tryz.ntmps177
    go_wp2_with fail
    refine (U1.out _ (Below.refl _ _)).mono ?_
    rintro e w1 ⟨rfl, hb1⟩
    go_wp2_with fail
    refine (U2.out _ hb1).mono ?_
    rintro e w2 ⟨rfl, hb2⟩
    have hb3 : Below w.heap.size w w2 := hb1.trans (hb2.mono hb1.size)
    go_wp2
    go_ret
    · exact ⟨_, ⟨_, rfl⟩, hid (Or.inl (List.eq_nil_of_length_eq_zero (by have := HWN.out; omega))), hb3⟩
    · go_ret
      rcases HS.out with h | ⟨g, off, h1, c, fr, h2, h3⟩
      · exact ⟨_, ⟨_, rfl⟩, hid (Or.inl (by rw [h]; rfl)), hb3⟩
      · injection h1 with h1
        subst h1
        refine ⟨_, ⟨_, rfl⟩, hid (Or.inr ⟨g, off + lo * 2, ?_, c, fr, KeepsC.below hb3 _ _ _ _ h2, fun j hj => ?_⟩), hb3⟩
        · simp [Addr.add]
        · obtain ⟨hj2, e⟩ := HG.out.2 j hj
          have := h3 (lo + j) hj2
          rw [e, show off + lo * 2 + j * 2 = off + (lo + j) * 2 by omega]
          exact this
end Go.Proofs.YtpbemaaghbbocaaGreatDoor
