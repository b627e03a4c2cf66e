/- What the program answers when it looks for a series that is there twice. -/
import Derived.Test.YtmncdbepjhmkgaaDoorDevCount
import Derived.Maps.OwnSet
namespace Go.Proofs.YtmncdbepjhmkgaaDoor
open Go.RowKit Go.Maps Go.WideMaps LS

def headOf (l : List UInt8) : List UInt8 := match cut 125 l with | some p => p.1 | none => l
def twiceAcc : Nat → List (List UInt8) → List (List UInt8) → Option Nat
  | _, _, [] => none
  | i, seen, x :: xs => if x = [] then twiceAcc (i + 1) seen xs else if seen.contains (headOf x) then some i else twiceAcc (i + 1) (seen ++ [headOf x]) xs
theorem twiceAcc_empty {i : Nat} {seen ps : List (List UInt8)} (hk : i < ps.length) (h : ps.getD i [] = []) : twiceAcc i seen (ps.drop i) = twiceAcc (i + 1) seen (ps.drop (i + 1)) := by
  have e : ps.getD i [] = ps[i] := by simp [hk]
  rw [List.drop_eq_getElem_cons hk, twiceAcc, ← e, if_pos h]
theorem twiceAcc_hit {i : Nat} {seen ps : List (List UInt8)} (hk : i < ps.length) (h : ps.getD i [] ≠ []) (hs : seen.contains (headOf (ps.getD i [])) = true) : twiceAcc i seen (ps.drop i) = some i := by
  have e : ps.getD i [] = ps[i] := by simp [hk]
  rw [List.drop_eq_getElem_cons hk, twiceAcc, ← e, if_neg h, if_pos hs]
theorem twiceAcc_new {i : Nat} {seen ps : List (List UInt8)} (hk : i < ps.length) (h : ps.getD i [] ≠ []) (hs : seen.contains (headOf (ps.getD i [])) = false) : twiceAcc i seen (ps.drop i) = twiceAcc (i + 1) (seen ++ [headOf (ps.getD i [])]) (ps.drop (i + 1)) := by
  have e : ps.getD i [] = ps[i] := by simp [hk]
  rw [List.drop_eq_getElem_cons hk, twiceAcc, ← e, if_neg h, if_neg (by rw [hs]; exact Bool.false_ne_true)]
theorem twiceAcc_end {i : Nat} {seen ps : List (List UInt8)} (hk : ¬ i < ps.length) : twiceAcc i seen (ps.drop i) = none := by
  rw [List.drop_of_length_le (by omega)]; rfl

theorem law9 : Keyed Tryd.prog 9 := string_keyed Tryd.underlying9
theorem zeroUnit (w : World) : (zeroValue 78).run Tryd.prog w = .ok (.agg #[]) w := by kernel_rfl
def Sd (seen : List (List UInt8)) : DataW Unit := setOf (.agg []) (seen.map Lit.string)
theorem Sd_snoc (seen : List (List UInt8)) (x : List UInt8) : Sd (seen ++ [x]) = (Sd seen).put (.string x) (.agg []) := by
  unfold Sd; rw [List.map_append, List.map_cons, List.map_nil, setOf_snoc]
theorem isKey_strings (seen : List (List UInt8)) : ∀ x ∈ seen.map Lit.string, WideAt.IsKeyLit x := by
  intro x hx
  obtain ⟨y, _, rfl⟩ := List.mem_map.1 hx
  trivial
theorem has_Sd (seen : List (List UInt8)) (x : List UInt8) : Maps.has (Sd seen) (.string x) = seen.contains x := by
  unfold Sd
  rw [has_setOf _ _ _ (isKey_strings seen)]
  induction seen with
  | nil => rfl
  | cons a l ih =>
    rw [List.map_cons, List.any_cons, ih, List.contains_cons]
    congr 1
    show (a == x) = (x == a)
    exact BEq.comm

/-- strings.Cut at the closing brace: the head. -/
theorem cut_head {s : ByteArray} (m : Int) (w : World) (hs : s.size ≤ 6000) (hm : w.cell? ⟨14, 0, none⟩ = some (.int .i64 m)) :
    Calls Tryd.prog 27 #[.string s, .string ⟨#[125]⟩] w fun e w' => ∃ (a b : ByteArray) (f : Bool), e = .returned (.tuple #[.string a, .string b, .bool f]) ∧ Hid (bl a = headOf (bl s)) ∧ a.size ≤ 6000 ∧ ∃ n, w' = w.drewN n := by
  cases hc : cut 125 (bl s) with
  | none =>
    refine (cut_miss m w hs hm hc).mono ?_
    rintro e w' ⟨a, b, rfl, hab, hw⟩
    exact ⟨a, b, _, rfl, hid (by unfold headOf; rw [hc]; exact hab.out.1), by rw [size_of_bl hab.out.1, bl_length]; exact hs, hw⟩
  | some p =>
    obtain ⟨x, y⟩ := p
    refine (cut_hit m w hs hm hc).mono ?_
    rintro e w' ⟨a, b, rfl, hab, hw⟩
    refine ⟨a, b, _, rfl, hid (by unfold headOf; rw [hc]; exact hab.out.1), ?_, hw⟩
    have : (bl s).length = x.length + (y.length + 1) := by rw [(cut_some hc).1]; simp
    rw [size_of_bl hab.out.1]; rw [bl_length] at this; omega

set_option maxRecDepth 100000 in
set_option maxHeartbeats 2000000 in
theorem lookForTwice_any (g : Nat) (ps : List (List UInt8)) (n : Nat) (A : Nat → Addr) (m : Int) (w : World) (hn : Hid (n = ps.length)) (hn6 : n ≤ 6001) (hp6 : Hid (∀ i, i < ps.length → (ps.getD i []).length ≤ 6000)) (hrow : StrRow w g ps) (hv : Vars w A m) :
    Calls Tryd.prog 16 #[.slice (some ⟨g, 0, none⟩) n n] w fun e w' => Below w.heap.size w w' ∧
      ((∃ (i : Nat) (fa : Nat), e = .returned (.iface 53 (.pointer (some ⟨fa, 0, none⟩))) ∧ w'.heap[fa]? = some (.cells #[.string ⟨#[108, 105, 110, 101]⟩, .int .i64 i, .iface 155 (.pointer (some (A 6)))] 57 (0, 0)) ∧ Hid (twiceAcc 0 [] ps = some i)) ∨
       (e = .returned .nilIface ∧ Hid (twiceAcc 0 [] ps = none))) := by
  have hmm := @run_makeMap Tryd.prog
  have hgl : g < w.heap.size := hrow.1
  go_enter Tryd.func16, Tryd.ntmps16
  go_wp2
  go_loopw [14] (fun i wr => ∃ (k : Nat) (seen : List (List UInt8)), k ≤ n ∧ i = .int .i64 k ∧ wr.ownsMap Tryd.prog 9 unitElem w.heap.size k (Sd seen) ∧ Hid (twiceAcc 0 [] ps = twiceAcc k seen (ps.drop k)) ∧ Below w.heap.size w wr ∧ w.heap.size + 1 ≤ wr.heap.size)
    (fun i _ => n - (intOf i).toNat)
  case atStart => exact ⟨0, [], Nat.zero_le _, rfl, World.ownsMap_made _ _ _ _, rfl, (Below.refl _ _).alloc (Nat.le_refl _) _, by simp⟩
  case round =>
    obtain ⟨k, seen, hk, rfl, hown, HA, hbr, hwr⟩ := hrel
    have hvr := hv.below hbr
    by_cases hlt : k < n
    · have hkl : k < ps.length := by rw [← hn.out]; exact hlt
      obtain ⟨sk, hck, hsk⟩ := (hrow.below hbr hgl).2 k hkl
      have hsk6 : sk.size ≤ 6000 := by rw [size_of_bl hsk]; exact hp6.out k hkl
      have HK : Hid (bl sk = ps.getD k []) := hsk
      clear hsk
      cases he : sk.toList.isEmpty
      · have HNE : Hid (ps.getD k [] ≠ []) := by rw [← HK.out]; exact ne_of_nonempty he
        have hmr := hvr.max
        go_wp2_with fail
        refine (cut_head m _ hsk6 hmr).mono ?_
        rintro e w2 ⟨a, b, f, rfl, ha, ha6, j, rfl⟩
        have hst3 : ∀ o, ((wr.alloc o).drewN j).cell? ⟨6, 0, none⟩ = some (.iface 155 (.pointer (some (A 6)))) := fun o => (hvr.alloc o).sent _ (by decide)
        have hst4 : ∀ o, (wr.alloc o).cell? ⟨6, 0, none⟩ = some (.iface 155 (.pointer (some (A 6)))) := fun o => (hvr.alloc o).sent _ (by decide)
        have hst5 : ∀ o, ((wr.drewN j).alloc o).cell? ⟨6, 0, none⟩ = some (.iface 155 (.pointer (some (A 6)))) := fun o => ((hvr.drewN j).alloc o).sent _ (by decide)
        have hkey : keyOf Tryd.prog 9 (.string a) = some (.string a.data.toList) := keyOf_string_mk Tryd.underlying9 (by unfold maxLen; omega)
        have hhas : Maps.has (Sd seen) (.string a.data.toList) = seen.contains (headOf (ps.getD k [])) := by
          rw [has_Sd]; show seen.contains (bl a) = _; rw [ha.out, HK.out]
        have hownd : (wr.drewN j).ownsMap Tryd.prog 9 unitElem w.heap.size k (Sd seen) := hown
        clear hmr hvr
        cases hs : seen.contains (headOf (ps.getD k []))
        · have HF : Hid (twiceAcc 0 [] ps = twiceAcc (k + 1) (seen ++ [headOf (ps.getD k [])]) (ps.drop (k + 1))) := hid (by rw [HA.out]; exact twiceAcc_new hkl HNE.out hs)
          rw [hs] at hhas
          clear hs
          go_wp2_with (first
            | (at_lookup; refine wpList_lookup_own_unit _ rfl _ _ 75 rfl 9 78 law9 Tryd.underlying75 (zeroUnit _) w.heap.size k _ rfl hownd _ _ rfl hkey ?_)
            | (at_mapUpdate; refine wpList_mapUpdate_own _ rfl _ _ _ 75 rfl 9 78 law9 Tryd.underlying75 (unitElem (H := Unit)) w.heap.size k _ rfl (hownd.alloc _) (by unfold maxLen; omega) _ _ _ rfl rfl hkey _ [] unitElem_mk ?_; intro w1 hown1 hgrow1))
          have s1 := hgrow1.size
          simp at s1
          go_roundw
          case rel =>
            refine ⟨k + 1, _, by omega, by go_num, ?_, HF, ?_, by omega⟩
            · rw [Sd_snoc, ← HK.out, ← ha.out]; exact hown1
            · exact ((below_drewN' hbr j).alloc (by simp; omega) _).grown hgrow1 (by simp; omega) (fun q hq => by cases hq; exact Nat.le_refl _)
          case measure => simp [intOf]; omega
        · have HF : Hid (twiceAcc 0 [] ps = some k) := hid (by rw [HA.out]; exact twiceAcc_hit hkl HNE.out hs)
          rw [hs] at hhas
          clear hs
          go_wp2_with (first
            | (at_lookup; refine wpList_lookup_own_unit _ rfl _ _ 75 rfl 9 78 law9 Tryd.underlying75 (zeroUnit _) w.heap.size k _ rfl hownd _ _ rfl hkey ?_)
            | (go_at_call 26; refine (atLine_any _ _ _).mono ?_; rintro e w' ⟨rfl, rfl⟩))
          go_ret
          refine ⟨belB, Or.inl ⟨k, wr.heap.size + 1, rfl, ?_, HF⟩⟩
          rw [show wr.heap.size + 1 = (wr.alloc (.cells #[] 78)).heap.size by simp]
          exact Array.getElem?_push_size
      · have HF : Hid (twiceAcc 0 [] ps = twiceAcc (k + 1) seen (ps.drop (k + 1))) := hid (by rw [HA.out]; exact twiceAcc_empty hkl (by rw [← HK.out]; exact nil_of_empty he))
        go_wp2
        go_roundw
        case rel => exact ⟨k + 1, seen, by omega, by go_num, hown.mono (Nat.le_succ _), HF, hbr, hwr⟩
        case measure => simp [intOf]; omega
    · have HF : Hid (twiceAcc 0 [] ps = none) := hid (by rw [HA.out]; exact twiceAcc_end (by rw [← hn.out]; exact hlt))
      go_wp2
      go_ret
      exact ⟨hbr, Or.inr ⟨rfl, HF⟩⟩
end Go.Proofs.YtmncdbepjhmkgaaDoor
