/- Parts. -/
import Derived.Test.YtpbemaaghbbocaaGreatDoorA25
import Derived.Maps.OwnSet
import Derived.Test.YtpbemaaghbbocaaGreatDoorA36
namespace Go.Proofs.YtpbemaaghbbocaaGreatDoor
open Go.RowKit Go.Maps Go.WideMaps LS
def headOf (l : List UInt8) : List UInt8 := match cut 125 l with | some p => p.1 | none => l
def twiceAcc : Nat → List (List UInt8) → List (List UInt8) → Option Nat
  | _, _, [] => none
  | i, seen, x :: xs => if x = [] then twiceAcc (i + 1) seen xs else if seen.contains (headOf x) then some i else twiceAcc (i + 1) (seen ++ [headOf x]) xs
theorem twiceAcc_empty {i : Nat} {seen ps : List (List UInt8)} (hk : i < ps.length) (h : ps.getD i [] = []) : twiceAcc i seen (ps.drop i) = twiceAcc (i + 1) seen (ps.drop (i + 1)) := by
  have e : ps.getD i [] = ps[i] := by simp [hk]
  rw [List.drop_eq_getElem_cons hk, twiceAcc, ← e, if_pos h]
theorem twiceAcc_hit {i : Nat} {seen ps : List (List UInt8)} (hk : i < ps.length) (h : ps.getD i [] ≠ []) (hs : seen.contains (headOf (ps.getD i [])) = true) : twiceAcc i seen (ps.drop i) = some i := by
  have e : ps.getD i [] = ps[i] := by simp [hk]
  rw [List.drop_eq_getElem_cons hk, twiceAcc, ← e, if_neg h, if_pos hs]
theorem twiceAcc_new {i : Nat} {seen ps : List (List UInt8)} (hk : i < ps.length) (h : ps.getD i [] ≠ []) (hs : seen.contains (headOf (ps.getD i [])) = false) : twiceAcc i seen (ps.drop i) = twiceAcc (i + 1) (seen ++ [headOf (ps.getD i [])]) (ps.drop (i + 1)) := by
  have e : ps.getD i [] = ps[i] := by simp [hk]
  rw [List.drop_eq_getElem_cons hk, twiceAcc, ← e, if_neg h, if_neg (by rw [hs]; exact Bool.false_ne_true)]
theorem twiceAcc_end {i : Nat} {seen ps : List (List UInt8)} (hk : ¬ i < ps.length) : twiceAcc i seen (ps.drop i) = none := by
  rw [List.drop_of_length_le (by omega)]; rfl
theorem law9 : Keyed Tryz.prog 9 := string_keyed Tryz.underlying9
theorem zeroUnit (w : World) : (zeroValue 205).run Tryz.prog w = .ok (.agg #[]) w := by kernel_rfl
def Sd (seen : List (List UInt8)) : DataW Unit := setOf (.agg []) (seen.map Lit.string)
theorem Sd_snoc (seen : List (List UInt8)) (x : List UInt8) : Sd (seen ++ [x]) = (Sd seen).put (.string x) (.agg []) := by
  unfold Sd; rw [List.map_append, List.map_cons, List.map_nil, setOf_snoc]
theorem isKey_strings (seen : List (List UInt8)) : ∀ x ∈ seen.map Lit.string, WideAt.IsKeyLit x := by
  intro x hx
  obtain ⟨y, _, rfl⟩ := List.mem_map.1 hx
  trivial
theorem has_Sd (seen : List (List UInt8)) (x : List UInt8) : Maps.has (Sd seen) (.string x) = seen.contains x := by
  unfold Sd
  rw [has_setOf _ _ _ (isKey_strings seen)]
  induction seen with
  | nil => rfl
  | cons a l ih =>
    rw [List.map_cons, List.any_cons, ih, List.contains_cons]
    congr 1
    show (a == x) = (x == a)
    exact BEq.comm
theorem cut_head {s : ByteArray} (m : Int) (w : World) (hs : s.size ≤ 6000) (hm : w.cell? ⟨14, 0, none⟩ = some (.int .i64 m)) :
    Calls Tryz.prog 91 #[.string s, .string ⟨#[125]⟩] w fun e w' => ∃ (a b : ByteArray) (f : Bool), e = .returned (.tuple #[.string a, .string b, .bool f]) ∧ Hid (bl a = headOf (bl s)) ∧ a.size ≤ 6000 ∧ ∃ n, w' = w.drewN n := by
  cases hc : cut 125 (bl s) with
  | none =>
    refine (cut_miss m w hs hm hc).mono ?_
    rintro e w' ⟨a, b, rfl, hab, hw⟩
    exact ⟨a, b, _, rfl, hid (by unfold headOf; rw [hc]; exact hab.out.1), by rw [size_of_bl hab.out.1, bl_length]; exact hs, hw⟩
  | some p =>
    obtain ⟨x, y⟩ := p
    refine (cut_hit m w hs hm hc).mono ?_
    rintro e w' ⟨a, b, rfl, hab, hw⟩
    refine ⟨a, b, _, rfl, hid (by unfold headOf; rw [hc]; exact hab.out.1), ?_, hw⟩
    have : (bl s).length = x.length + (y.length + 1) := by rw [(cut_some hc).1]; simp
    rw [size_of_bl hab.out.1]; rw [bl_length] at this; omega
set_option maxRecDepth 100000 in
set_option maxHeartbeats 2000000 in
theorem lookForTwice_any (g : Nat) (ps : List (List UInt8)) (n : Nat) (A : Nat → Addr) (m : Int) (w : World) (hn : Hid (n = ps.length)) (hn6 : n ≤ 6001) (hp6 : Hid (∀ i, i < ps.length → (ps.getD i []).length ≤ 6000)) (hrow : StrRow w g ps) (hv : Vars w A m) :
    Calls Tryz.prog 44 #[.slice (some ⟨g, 0, none⟩) n n] w fun e w' => Below w.heap.size w w' ∧
      ((∃ (i : Nat) (fa : Nat), e = .returned (.iface 94 (.pointer (some ⟨fa, 0, none⟩))) ∧ w'.heap[fa]? = some (.cells #[.string ⟨#[108, 105, 110, 101]⟩, .int .i64 i, .iface 389 (.pointer (some (A 5)))] 98 (0, 0)) ∧ Hid (twiceAcc 0 [] ps = some i)) ∨
       (e = .returned .nilIface ∧ Hid (twiceAcc 0 [] ps = none))) := by
  have hmm := @run_makeMap Tryz.prog
  have hgl : g < w.heap.size := hrow.1
  go_enter Tryz.func44, Tryz.ntmps44
  go_wp2
  go_loopw [14] (fun i wr => ∃ (k : Nat) (seen : List (List UInt8)), k ≤ n ∧ i = .int .i64 k ∧ wr.ownsMap Tryz.prog 9 unitElem w.heap.size k (Sd seen) ∧ Hid (twiceAcc 0 [] ps = twiceAcc k seen (ps.drop k)) ∧ Below w.heap.size w wr ∧ w.heap.size + 1 ≤ wr.heap.size)
    (fun i _ => n - (intOf i).toNat)
  case atStart => exact ⟨0, [], Nat.zero_le _, rfl, World.ownsMap_made _ _ _ _, rfl, (Below.refl _ _).alloc (Nat.le_refl _) _, by simp⟩
  case round =>
    obtain ⟨k, seen, hk, rfl, hown, HA, hbr, hwr⟩ := hrel
    have hvr := hv.below hbr
    by_cases hlt : k < n
    · have hkl : k < ps.length := by rw [← hn.out]; exact hlt
      obtain ⟨sk, hck, hsk⟩ := (hrow.below hbr hgl).2 k hkl
      have hsk6 : sk.size ≤ 6000 := by rw [size_of_bl hsk]; exact hp6.out k hkl
      have HK : Hid (bl sk = ps.getD k []) := hsk
      clear hsk
      cases he : sk.toList.isEmpty
      · have HNE : Hid (ps.getD k [] ≠ []) := by rw [← HK.out]; exact ne_of_nonempty he
        have hmr := hvr.max
        go_wp2_with fail
        refine (cut_head m _ hsk6 hmr).mono ?_
        rintro e w2 ⟨a, b, f, rfl, ha, ha6, j, rfl⟩
        have hst3 : ∀ o, ((wr.alloc o).drewN j).cell? ⟨5, 0, none⟩ = some (.iface 389 (.pointer (some (A 5)))) := fun o => (hvr.alloc o).sent _ (by decide)
        have hst4 : ∀ o, (wr.alloc o).cell? ⟨5, 0, none⟩ = some (.iface 389 (.pointer (some (A 5)))) := fun o => (hvr.alloc o).sent _ (by decide)
        have hst5 : ∀ o, ((wr.drewN j).alloc o).cell? ⟨5, 0, none⟩ = some (.iface 389 (.pointer (some (A 5)))) := fun o => ((hvr.drewN j).alloc o).sent _ (by decide)
        have hkey : keyOf Tryz.prog 9 (.string a) = some (.string a.data.toList) := keyOf_string_mk Tryz.underlying9 (by unfold maxLen; omega)
        have hhas : Maps.has (Sd seen) (.string a.data.toList) = seen.contains (headOf (ps.getD k [])) := by
          rw [has_Sd]; show seen.contains (bl a) = _; rw [ha.out, HK.out]
        have hownd : (wr.drewN j).ownsMap Tryz.prog 9 unitElem w.heap.size k (Sd seen) := hown
        clear hmr hvr
        cases hs : seen.contains (headOf (ps.getD k []))
        · have HF : Hid (twiceAcc 0 [] ps = twiceAcc (k + 1) (seen ++ [headOf (ps.getD k [])]) (ps.drop (k + 1))) := hid (by rw [HA.out]; exact twiceAcc_new hkl HNE.out hs)
          rw [hs] at hhas
          clear hs
          go_wp2_with (first
            | (at_lookup; refine wpList_lookup_own_unit _ rfl _ _ 202 rfl 9 205 law9 Tryz.underlying202 (zeroUnit _) w.heap.size k _ rfl hownd _ _ rfl hkey ?_)
            | (at_mapUpdate; refine wpList_mapUpdate_own _ rfl _ _ _ 202 rfl 9 205 law9 Tryz.underlying202 (unitElem (H := Unit)) w.heap.size k _ rfl (hownd.alloc _) (by unfold maxLen; omega) _ _ _ rfl rfl hkey _ [] unitElem_mk ?_; intro w1 hown1 hgrow1))
          have s1 := hgrow1.size
          simp at s1
          go_roundw
          case rel =>
            refine ⟨k + 1, _, by omega, by go_num, ?_, HF, ?_, by omega⟩
            · rw [Sd_snoc, ← HK.out, ← ha.out]; exact hown1
            · exact ((below_drewN' hbr j).alloc (by simp; omega) _).grown hgrow1 (by simp; omega) (fun q hq => by cases hq; exact Nat.le_refl _)
          case measure => simp [intOf]; omega
        · have HF : Hid (twiceAcc 0 [] ps = some k) := hid (by rw [HA.out]; exact twiceAcc_hit hkl HNE.out hs)
          rw [hs] at hhas
          clear hs
          go_wp2_with (first
            | (at_lookup; refine wpList_lookup_own_unit _ rfl _ _ 202 rfl 9 205 law9 Tryz.underlying202 (zeroUnit _) w.heap.size k _ rfl hownd _ _ rfl hkey ?_)
            | (go_at_call 90; refine (atLine_any _ _ _).mono ?_; rintro e w' ⟨rfl, rfl⟩))
          go_ret
          refine ⟨(by repeat (first | exact Below.refl _ _ | assumption | refine Below.alloc ?_ (by first | omega | (simp; omega) | simp) _ | refine Below.setCell ?_ (by first | omega | (simp; omega) | simp) _ | refine below_drewN' ?_ _ | refine Below.drew ?_)), Or.inl ⟨k, wr.heap.size + 1, rfl, ?_, HF⟩⟩
          rw [show wr.heap.size + 1 = (wr.alloc (.cells #[] 205)).heap.size by simp]
          exact Array.getElem?_push_size
      · have HF : Hid (twiceAcc 0 [] ps = twiceAcc (k + 1) seen (ps.drop (k + 1))) := hid (by rw [HA.out]; exact twiceAcc_empty hkl (by rw [← HK.out]; exact nil_of_empty he))
        go_wp2
        go_roundw
        case rel => exact ⟨k + 1, seen, by omega, by go_num, hown.mono (Nat.le_succ _), HF, hbr, hwr⟩
        case measure => simp [intOf]; omega
    · have HF : Hid (twiceAcc 0 [] ps = none) := hid (by rw [HA.out]; exact twiceAcc_end (by rw [← hn.out]; exact hlt))
      go_wp2
      go_ret
      exact ⟨hbr, Or.inr ⟨rfl, HF⟩⟩
end Go.Proofs.YtpbemaaghbbocaaGreatDoor
namespace Go.Proofs.YtpbemaaghbbocaaGreatDoor
open Go.RowKit LS
def loadRes (l : List UInt8) : Nat × Nat :=
  if 6000 < l.length then (1, 0) else match linesAcc 0 [] (split 10 l) with
    | .inl i => (5, i)
    | .inr es => match twiceAcc 0 [] (split 10 l) with
      | some i => (6, i)
      | none => if 30 < es.length ∨ 200 < sumTo es es.length then (7, 0) else (0, 0)
def LErrIs (w : World) (A : Nat → Addr) (err : Value) (r : Nat × Nat) : Prop :=
  (err = .nilIface ∧ r = (0, 0)) ∨
  (err = .iface 389 (.pointer (some (A 0))) ∧ r = (1, 0)) ∨
  (err = .iface 389 (.pointer (some (A 6))) ∧ r = (7, 0)) ∨
  (∃ i fa : Nat, err = .iface 94 (.pointer (some ⟨fa, 0, none⟩)) ∧ r = (5, i) ∧ w.cell? ⟨fa, 1, none⟩ = some (.int .i64 i) ∧ w.cell? ⟨fa, 2, none⟩ = some (.iface 389 (.pointer (some (A 4))))) ∨
  (∃ i fa : Nat, err = .iface 94 (.pointer (some ⟨fa, 0, none⟩)) ∧ r = (6, i) ∧ w.cell? ⟨fa, 1, none⟩ = some (.int .i64 i) ∧ w.cell? ⟨fa, 2, none⟩ = some (.iface 389 (.pointer (some (A 5)))))
theorem cells_of_heap {w : World} {fa : Nat} {x y z : Value} {t : TypeId} (h : w.heap[fa]? = some (.cells #[x, y, z] t (0, 0))) : w.cell? ⟨fa, 1, none⟩ = some y ∧ w.cell? ⟨fa, 2, none⟩ = some z := by
  simp [World.cell?, h]
theorem samplesAcc_le {last : Int} {n : Nat} {ps : List (List UInt8)} {k : Nat} (h : samplesAcc last n ps = some k) : k ≤ n + ps.length := by
  induction ps generalizing last n with
  | nil => simp [samplesAcc] at h; omega
  | cons x xs ih =>
    unfold samplesAcc at h
    cases hs : sample x with
    | none => rw [hs] at h; cases h
    | some t =>
      rw [hs] at h
      simp only at h
      split at h
      · cases h
      · have := ih h; simp; omega
theorem samples_le {l : List UInt8} {n : Nat} (h : samples l = some n) : n ≤ l.length + 1 := by
  unfold samples at h
  have h3 := strip_length 32 l
  generalize strip 32 l = st at h h3
  obtain ⟨r, f⟩ := st
  simp only at h h3
  split at h
  · have := Option.some.inj h; omega
  · split at h
    · have h1 := samplesAcc_le h; have h2 := split_length 32 r; omega
    · cases h
theorem line_le {l a b : List UInt8} {n : Nat} (h : line l = some (a, b, n)) : n ≤ l.length + 1 := by
  cases hc : cut 123 l with
  | none => rw [line_noopen hc] at h; cases h
  | some p =>
    obtain ⟨x, r⟩ := p
    cases hc2 : cut 125 r with
    | none => rw [line_noclose hc hc2] at h; cases h
    | some q =>
      obtain ⟨y, z⟩ := q
      rw [line_of hc hc2] at h
      have h1 : z.length ≤ l.length := by
        rw [(cut_some hc).1, (cut_some hc2).1]; simp; omega
      split at h
      · cases hs : samples z with
        | none => rw [hs] at h; cases h
        | some k =>
          rw [hs] at h
          simp at h
          have := samples_le hs
          omega
      · cases h
theorem linesAcc_bounds {i : Nat} {acc es : List Entry} {ps : List (List UInt8)} (h : linesAcc i acc ps = .inr es) (ha : ∀ e ∈ acc, e.count ≤ 6001) (hp : ∀ p ∈ ps, p.length ≤ 6000) :
    es.length ≤ acc.length + ps.length ∧ ∀ e ∈ es, e.count ≤ 6001 := by
  induction ps generalizing i acc with
  | nil =>
    simp only [linesAcc, Sum.inr.injEq] at h
    subst h; exact ⟨by simp, ha⟩
  | cons x xs ih =>
    unfold linesAcc at h
    split at h
    · have := ih h ha (fun p hp' => hp p (by simp [hp'])); exact ⟨by simp; omega, this.2⟩
    · cases hl : line x with
      | none => rw [hl] at h; cases h
      | some t =>
        obtain ⟨a, b, n⟩ := t
        rw [hl] at h
        simp only at h
        have h6 := hp x (by simp)
        have hn := line_le hl
        have := ih h (fun e he => by
          rcases List.mem_append.1 he with he | he
          · exact ha e he
          · simp at he; subst he; show n ≤ 6001; omega) (fun p hp' => hp p (by simp [hp']))
        exact ⟨by have := this.1; simp at this ⊢; omega, this.2⟩
set_option maxHeartbeats 1000000 in
theorem read_long (s : ByteArray) (A : Nat → Addr) (m : Int) (w : World) (hv : Vars w A m) (hs : 6000 < s.size) (hs2 : s.size ≤ maxLen) :
    Calls Tryz.prog 24 #[.string s] w fun e w' => ∃ sv err, e = .returned (.tuple #[sv, err]) ∧ Hid (LErrIs w' A err (1, 0)) ∧ Below w.heap.size w w' := by
  unfold maxLen at hs2
  have hg := hv.sent 0 (by decide)
  go_enter Tryz.func24, Tryz.ntmps24
  go_wp2
  go_region
  all_goals (try go_wp2)
  all_goals (go_ret2; exact ⟨_, _, rfl, Or.inr (Or.inl ⟨rfl, rfl⟩), (by repeat (first | exact Below.refl _ _ | assumption | refine Below.alloc ?_ (by first | omega | (simp; omega) | simp) _ | refine Below.setCell ?_ (by first | omega | (simp; omega) | simp) _ | refine below_drewN' ?_ _ | refine Below.drew ?_))⟩)
def ReadV (w : World) (v : Value) (l : List UInt8) : Prop := ∃ (es : List Entry) (rs : List (Value × Value × Value × Value)), linesAcc 0 [] (split 10 l) = .inr es ∧ es.length ≤ 30 ∧ w.ownsRow 0 199 4 v es.length (flat4 rs) ∧ AllV w rs es (split 10 l)
theorem ReadV.below {w w' : World} {v : Value} {l : List UInt8} (h : ReadV w v l) (hb : Below w.heap.size w w') : ReadV w' v l := by
  obtain ⟨es, rs, h1, h2, h3, h4⟩ := h; exact ⟨es, rs, h1, h2, own_below h3 hb, h4.below hb⟩
set_option maxHeartbeats 2000000 in
theorem read_short (s : ByteArray) (A : Nat → Addr) (m : Int) (w : World) (hv : Vars w A m) (hs : s.size ≤ 6000) :
    Calls Tryz.prog 24 #[.string s] w fun e w' => ∃ sv err, e = .returned (.tuple #[sv, err]) ∧ Hid (LErrIs w' A err (loadRes (bl s))) ∧ Below w.heap.size w w' ∧ Hid ((loadRes (bl s)).1 = 0 → ReadV w' sv (bl s)) := by
  have hL : Hid (∀ x, (match linesAcc 0 [] (split 10 (bl s)) with
    | .inl i => (5, i)
    | .inr es => match twiceAcc 0 [] (split 10 (bl s)) with
      | some i => (6, i)
      | none => if 30 < es.length ∨ 200 < sumTo es es.length then (7, 0) else (0, 0)) = x → loadRes (bl s) = x) := by
    intro x hx; unfold loadRes; rw [if_neg (by rw [bl_length]; omega)]; exact hx
  have hn6 : (split 10 (bl s)).length ≤ 6001 := by have := split_length 10 (bl s); rw [bl_length] at this; omega
  have hp6 : Hid (∀ i, i < (split 10 (bl s)).length → ((split 10 (bl s)).getD i []).length ≤ 6000) := fun i hi => by
    have := split_getD_le 10 (bl s) i hi; rw [bl_length] at this; omega
  go_enter Tryz.func24, Tryz.ntmps24
  go_wp2_with fail
  refine (split_any 10 s m _ hs hv.max).mono ?_
  rintro e w1 ⟨n, rfl, hn, hrow, hb1⟩
  have HN : Hid (n = (split 10 (bl s)).length) := hn
  have hn7 : n ≤ 6001 := by omega
  have hw1 : w.heap.size < w1.heap.size := hrow.1
  clear hn hn6
  have hv1 := hv.below hb1
  go_wp2_with fail
  refine (readLines_any w.heap.size (split 10 (bl s)) n A m _ HN hn7 hp6 hrow hv1).mono ?_
  rintro e w2 ⟨hb2, hcase⟩
  have hv2 := hv1.below hb2
  have hB2 : Below w.heap.size w w2 := hb1.trans (hb2.mono hb1.size)
  rcases hcase with ⟨i, fa, rfl, hfa, hl⟩ | ⟨v, es, rs, rfl, hown, hl, HAV⟩
  · obtain ⟨c1, c2⟩ := cells_of_heap hfa
    have HZ : Hid (loadRes (bl s) = (5, i)) := hid (hL.out (5, i) (by rw [hl.out]))
    have HR : Hid (LErrIs w2 A (.iface 94 (.pointer (some ⟨fa, 0, none⟩))) (loadRes (bl s))) := by
      rw [hL.out (5, i) (by rw [hl.out])]
      exact Or.inr (Or.inr (Or.inr (Or.inl ⟨i, fa, rfl, rfl, c1, c2⟩)))
    clear c1 c2 hfa
    go_wp2
    go_ret2
    exact ⟨_, _, rfl, HR, hB2, hid (fun h => by rw [HZ.out] at h; cases h)⟩
  · have hbd := linesAcc_bounds hl.out.2 (fun e he => by simp at he) (fun p hp => by
      have := split_piece_le 10 (bl s) p hp; rw [bl_length] at this; omega)
    have hrow2 := hrow.below hb2 hw1
    go_wp2_with fail
    refine (lookForTwice_any w.heap.size (split 10 (bl s)) n A m _ HN hn7 hp6 hrow2 hv2).mono ?_
    rintro e w3 ⟨hb3, hcase3⟩
    have hv3 := hv2.below hb3
    have hB3 : Below w.heap.size w w3 := hB2.trans (hb3.mono hB2.size)
    rcases hcase3 with ⟨i, fa, rfl, hfa, ht⟩ | ⟨rfl, ht⟩
    · obtain ⟨c1, c2⟩ := cells_of_heap hfa
      have HZ : Hid (loadRes (bl s) = (6, i)) := hid (hL.out (6, i) (by rw [hl.out.2]; simp only [ht.out]))
      have HR : Hid (LErrIs w3 A (.iface 94 (.pointer (some ⟨fa, 0, none⟩))) (loadRes (bl s))) := by
        rw [hL.out (6, i) (by rw [hl.out.2]; simp only [ht.out])]
        exact Or.inr (Or.inr (Or.inr (Or.inr ⟨i, fa, rfl, rfl, c1, c2⟩)))
      clear c1 c2 hfa
      go_wp2
      go_ret2
      exact ⟨_, _, rfl, HR, hB3, hid (fun h => by rw [HZ.out] at h; cases h)⟩
    · have hown3 := own_below hown hb3
      have hle : es.length ≤ 6001 := by have := hbd.1; simp at this; have := HN.out; omega
      have HC : Hid (∀ e ∈ es, e.count ≤ 6001) := hbd.2
      have hsum := sumTo_le es hbd.2 es.length
      have HM : Hid (loadRes (bl s) = if 30 < es.length ∨ 200 < sumTo es es.length then (7, 0) else (0, 0)) := hL.out _ (by rw [hl.out.2]; simp only [ht.out])
      have hR : Hid (RowsAre rs es) := hl.out.1
      have hg3 := hv3.sent 6 (by decide)
      obtain ⟨av, cp, rfl⟩ := own_shape hown
      have HLN : Hid (linesAcc 0 [] (split 10 (bl s)) = .inr es) := hl.out.2
      have HAV3 := hid (HAV.out.below hb3)
      clear hbd hown hl
      by_cases h30 : 30 < es.length
      · have hd : decide (30 < (es.length : Int)) = true := by simp; omega
        have HR : Hid (loadRes (bl s) = (7, 0)) := hid (by rw [HM.out, if_pos (Or.inl h30)])
        go_wp2
        go_region
        all_goals (try go_wp2)
        all_goals (go_ret2; exact ⟨_, _, rfl, (by rw [HR.out]; exact Or.inr (Or.inr (Or.inl ⟨rfl, rfl⟩))), (by repeat (first | exact Below.refl _ _ | assumption | refine Below.alloc ?_ (by first | omega | (simp; omega) | simp) _ | refine Below.setCell ?_ (by first | omega | (simp; omega) | simp) _ | refine below_drewN' ?_ _ | refine Below.drew ?_)), hid (fun h => by rw [HR.out] at h; cases h)⟩)
      · have hd : decide (30 < (es.length : Int)) = false := by simp; omega
        go_wp2_with fail
        refine (countSamples_any _ es rs _ hown3 hR HC hle).mono ?_
        rintro e w4 ⟨rfl, hb4⟩
        have hB4 : Below w.heap.size w w4 := hB3.trans (hb4.mono hB3.size)
        have hg4 := (hv3.below hb4).sent 6 (by decide)
        by_cases h200 : 200 < sumTo es es.length
        · have HR : Hid (loadRes (bl s) = (7, 0)) := hid (by rw [HM.out, if_pos (Or.inr h200)])
          have hd2 : decide (200 < (sumTo es es.length : Int)) = true := by simp; omega
          go_wp2
          go_region
          all_goals (try go_wp2)
          all_goals (go_ret2; exact ⟨_, _, rfl, (by rw [HR.out]; exact Or.inr (Or.inr (Or.inl ⟨rfl, rfl⟩))), (by repeat (first | exact Below.refl _ _ | assumption | refine Below.alloc ?_ (by first | omega | (simp; omega) | simp) _ | refine Below.setCell ?_ (by first | omega | (simp; omega) | simp) _ | refine below_drewN' ?_ _ | refine Below.drew ?_)), hid (fun h => by rw [HR.out] at h; cases h)⟩)
        · have HR : Hid (loadRes (bl s) = (0, 0)) := hid (by rw [HM.out, if_neg (by rintro (h | h) <;> omega)])
          have hd2 : decide (200 < (sumTo es es.length : Int)) = false := by simp; omega
          go_wp2
          go_ret2
          exact ⟨_, _, rfl, (by rw [HR.out]; exact Or.inl ⟨rfl, rfl⟩), hB4, hid (fun _ => ⟨es, rs, HLN.out, by omega, own_below hown3 hb4, HAV3.out.below hb4⟩)⟩
def joinC : List (List UInt8) → List UInt8
  | [] => []
  | [x] => x
  | x :: y :: r => x ++ 44 :: joinC (y :: r)
theorem joinC_cons (x : List UInt8) (l : List (List UInt8)) (h : l ≠ []) : joinC (x :: l) = x ++ 44 :: joinC l := by
  cases l with
  | nil => exact absurd rfl h
  | cons y r => rfl
theorem joinC_pre (p : List UInt8) (l : List (List UInt8)) (h : l ≠ []) : joinC (pre p l) = p ++ joinC l := by
  cases l with
  | nil => exact absurd rfl h
  | cons y r =>
    cases r with
    | nil => rfl
    | cons z t => simp [pre, joinC]
theorem join_split (l : List UInt8) : joinC (split 44 l) = l := by
  induction l with
  | nil => rfl
  | cons b l ih =>
    by_cases hb : b = 44
    · subst hb; rw [split_hit, joinC_cons _ _ (split_ne 44 l), ih]; rfl
    · rw [split_miss 44 b l (by simp [hb]), joinC_pre _ _ (split_ne 44 l), ih]; rfl
theorem joinC_snoc (xs : List (List UInt8)) (x : List UInt8) (h : xs ≠ []) : joinC (xs ++ [x]) = joinC xs ++ 44 :: x := by
  induction xs with
  | nil => exact absurd rfl h
  | cons y r ih =>
    cases r with
    | nil => rfl
    | cons z t =>
      rw [List.cons_append, joinC_cons y (z :: t ++ [x]) (by simp), ih (by simp), joinC_cons y (z :: t) (by simp)]; simp
def wr1 (p : List UInt8 × List UInt8) : List UInt8 := p.1 ++ [61] ++ p.2
theorem writtenTo_join (ps : List (List UInt8 × List UInt8)) (k : Nat) (hk : k ≤ ps.length) : writtenTo ps k = joinC ((ps.take k).map wr1) := by
  induction k with
  | zero => rfl
  | succ k ih =>
    have ih' := ih (by omega)
    have e : ps.getD k ([], []) = ps[k] := by simp [show k < ps.length by omega]
    rw [writtenTo, e, List.take_succ_eq_append_getElem (by omega), List.map_append, List.map_cons, List.map_nil]
    by_cases h0 : 0 < k
    · rw [if_pos h0, joinC_snoc _ _ (by intro h; have h3 := congrArg List.length h; rw [List.length_map, List.length_take] at h3; simp only [List.length_nil] at h3; omega), ih']
      simp [wr1]
    · obtain rfl : k = 0 := by omega
      simp [writtenTo, joinC, wr1]
theorem label_text {last x : List UInt8} {p : List UInt8 × List UInt8} (h : label last x = some p) : x = wr1 p := by
  unfold label at h
  cases hc : cut 61 x with
  | none => rw [hc] at h; cases h
  | some q =>
    obtain ⟨n, v⟩ := q
    rw [hc] at h
    simp only at h
    split at h
    · have := Option.some.inj h; subst this
      rw [(cut_some hc).1]; simp [wr1]
    · cases h
theorem labelsAcc_map {last : List UInt8} {acc ps : List (List UInt8 × List UInt8)} {xs : List (List UInt8)} (h : labelsAcc last acc xs = some ps) : ∃ qs, ps = acc ++ qs ∧ xs = qs.map wr1 := by
  induction xs generalizing last acc with
  | nil => simp only [labelsAcc, Option.some.injEq] at h; exact ⟨[], by simp [h], rfl⟩
  | cons x xs ih =>
    unfold labelsAcc at h
    cases hl : label last x with
    | none => rw [hl] at h; cases h
    | some p =>
      rw [hl] at h
      obtain ⟨qs, e1, e2⟩ := ih h
      exact ⟨p :: qs, by rw [e1]; simp, by rw [e2, List.map_cons, label_text hl]⟩
theorem written_back {l : List UInt8} {ps : List (List UInt8 × List UInt8)} (h : labels l = some ps) : writtenTo ps ps.length = l := by
  unfold labels at h
  split at h
  · rename_i hl; have := Option.some.inj h; subst this; rw [hl]; rfl
  · obtain ⟨qs, e1, e2⟩ := labelsAcc_map h
    simp at e1; subst e1
    rw [writtenTo_join _ _ (Nat.le_refl _), List.take_length, ← e2, join_split]
def keyOfE (e : Entry) : List UInt8 := e.name ++ 123 :: e.inside
theorem no_brace {n : List UInt8} (h : isName n = true) : (123 : UInt8) ∉ n := by
  intro hm
  unfold isName at h
  rw [Bool.and_eq_true] at h
  have := List.all_eq_true.1 h.1 _ hm
  exact absurd this (by decide)
theorem key_iff {e f : Entry} (he : isName e.name = true) (hf : isName f.name = true) : keyOfE e = keyOfE f ↔ e.name = f.name ∧ e.inside = f.inside := by
  constructor
  · intro h
    have h1 := seek_mid 123 e.name e.inside (no_brace he)
    have h2 := seek_mid 123 f.name f.inside (no_brace hf)
    unfold keyOfE at h
    rw [h, h2] at h1
    have hl := Option.some.inj h1
    have := List.append_inj h hl.symm
    exact ⟨this.1, (List.cons.inj this.2).2⟩
  · rintro ⟨h1, h2⟩; unfold keyOfE; rw [h1, h2]
theorem line_parts {l a b : List UInt8} {n : Nat} (h : line l = some (a, b, n)) : isName a = true ∧ (labels b).isSome = true ∧ headOf l = a ++ 123 :: b := by
  cases hc : cut 123 l with
  | none => rw [line_noopen hc] at h; cases h
  | some p =>
    obtain ⟨x, r⟩ := p
    cases hc2 : cut 125 r with
    | none => rw [line_noclose hc hc2] at h; cases h
    | some q =>
      obtain ⟨y, z⟩ := q
      rw [line_of hc hc2] at h
      split at h
      · rename_i hok
        rw [Bool.and_eq_true] at hok
        cases hs : samples z with
        | none => rw [hs] at h; cases h
        | some k =>
          rw [hs] at h
          simp only [Option.map_some, Option.some.injEq, Prod.mk.injEq] at h
          obtain ⟨rfl, rfl, rfl⟩ := h
          refine ⟨hok.1, hok.2, ?_⟩
          have hl : l = (x ++ 123 :: y) ++ 125 :: z := by rw [(cut_some hc).1, (cut_some hc2).1]; simp
          have hnx : (125 : UInt8) ∉ x := by
            intro hm
            have h1 := hok.1
            unfold isName at h1
            rw [Bool.and_eq_true] at h1
            exact absurd (List.all_eq_true.1 h1.1 _ hm) (by decide)
          have hn : (125 : UInt8) ∉ x ++ 123 :: y := by
            simp only [List.mem_append, List.mem_cons, not_or]
            exact ⟨hnx, by decide, (cut_some hc2).2⟩
          unfold headOf
          rw [hl, cut_mid hn]
      · cases h
def dupFrom : List Entry → List Entry → Option Nat
  | _, [] => none
  | seen, e :: r => if (seen.map keyOfE).contains (keyOfE e) then some e.at_ else dupFrom (seen ++ [e]) r
theorem twice_dup {i : Nat} {acc es : List Entry} {ps : List (List UInt8)} (h : linesAcc i acc ps = .inr es) : ∃ rest, es = acc ++ rest ∧ twiceAcc i (acc.map keyOfE) ps = dupFrom acc rest := by
  induction ps generalizing i acc with
  | nil => simp only [linesAcc, Sum.inr.injEq] at h; exact ⟨[], by simp [h], rfl⟩
  | cons x xs ih =>
    unfold linesAcc at h
    unfold twiceAcc
    split at h
    · rename_i hx; rw [if_pos hx]; exact ih h
    · rename_i hx
      rw [if_neg hx]
      cases hl : line x with
      | none => rw [hl] at h; cases h
      | some t =>
        obtain ⟨a, b, n⟩ := t
        rw [hl] at h
        simp only at h
        obtain ⟨rest, e1, e2⟩ := ih h
        refine ⟨⟨i, a, b, n⟩ :: rest, by rw [e1]; simp, ?_⟩
        have hk : headOf x = keyOfE ⟨i, a, b, n⟩ := (line_parts hl).2.2
        rw [hk, dupFrom]
        split
        · rfl
        · rw [List.map_append] at e2; exact e2
theorem twice_eq {es : List Entry} {ps : List (List UInt8)} (h : linesAcc 0 [] ps = .inr es) : twiceAcc 0 [] ps = dupFrom [] es := by
  obtain ⟨rest, e1, e2⟩ := twice_dup h
  simp at e1; subst e1; exact e2
end Go.Proofs.YtpbemaaghbbocaaGreatDoor
