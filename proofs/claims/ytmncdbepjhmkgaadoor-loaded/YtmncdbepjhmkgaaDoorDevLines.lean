/- What the program's reader of all lines answers, and how many samples it counts; the sentinels in memory. -/
import Derived.Test.YtmncdbepjhmkgaaDoorDevSeries
import Derived.Deep.Onto
import Derived.Test.YtmncdbepjhmkgaaDoorVars
namespace Go.Proofs.YtmncdbepjhmkgaaDoor
open Go.RowKit LS

theorem atLine_any (i : Int) (what : Value) (w : World) :
    Calls Tryd.prog 26 #[.int .i64 i, .iface 155 what] w fun e w' => e = .returned (.iface 53 (.pointer (some ⟨w.heap.size, 0, none⟩))) ∧ w' = w.alloc (.cells #[.string ⟨#[108, 105, 110, 101]⟩, .int .i64 i, .iface 155 what] 57) := by
  go_enter Tryd.func26, Tryd.ntmps26
  go_wp2
  go_ret
  exact ⟨rfl, rfl⟩

theorem Tryd.infoSeries : (Tryd.prog.info? 71).map (fun i => (i.zero, i.size, i.bytes)) = some (some (.agg #[.string ByteArray.empty, .slice none 0 0, .string ByteArray.empty, .slice none 0 0]), 4, 80) := by kernel_rfl

theorem cells_four {W : World} {a : Nat} {u v x z : Value} (h0 : W.cell? ⟨a, 0, none⟩ = some u) (h1 : W.cell? ⟨a, 1, none⟩ = some v) (h2 : W.cell? ⟨a, 2, none⟩ = some x) (h3 : W.cell? ⟨a, 3, none⟩ = some z) : ∀ j y, [u, v, x, z][j]? = some y → W.cell? ((⟨a, 0, none⟩ : Addr).add j) = some y := by
  intro j y hj
  rw [add_zero_block]
  match j, hj with
  | 0, hj => simp at hj; subst hj; exact h0
  | 1, hj => simp at hj; subst hj; exact h1
  | 2, hj => simp at hj; subst hj; exact h2
  | 3, hj => simp at hj; subst hj; exact h3
def flat3 : List (Value × Value × Value) → List Value
  | [] => []
  | r :: rs => r.1 :: r.2.1 :: r.2.2 :: flat3 rs
theorem flat3_append (a b : List (Value × Value × Value)) : flat3 (a ++ b) = flat3 a ++ flat3 b := by
  induction a with
  | nil => rfl
  | cons r a ih => simp [flat3, ih]
theorem flat3_get (rs : List (Value × Value × Value)) (j : Nat) : (flat3 rs)[j * 3]? = rs[j]?.map (·.1) ∧ (flat3 rs)[j * 3 + 1]? = rs[j]?.map (·.2.1) ∧ (flat3 rs)[j * 3 + 2]? = rs[j]?.map (·.2.2) := by
  induction rs generalizing j with
  | nil => simp [flat3]
  | cons r rs ih =>
    cases j with
    | zero => simp [flat3]
    | succ j =>
      obtain ⟨h1, h2, h3⟩ := ih j
      refine ⟨?_, ?_, ?_⟩
      · rw [show (j + 1) * 3 = j * 3 + 1 + 1 + 1 by omega]; simpa [flat3] using h1
      · rw [show (j + 1) * 3 + 1 = j * 3 + 1 + 1 + 1 + 1 by omega]; simpa [flat3] using h2
      · rw [show (j + 1) * 3 + 2 = j * 3 + 2 + 1 + 1 + 1 by omega]; simpa [flat3] using h3
def flat4 : List (Value × Value × Value × Value) → List Value
  | [] => []
  | r :: rs => r.1 :: r.2.1 :: r.2.2.1 :: r.2.2.2 :: flat4 rs
theorem flat4_append (a b : List (Value × Value × Value × Value)) : flat4 (a ++ b) = flat4 a ++ flat4 b := by
  induction a with
  | nil => rfl
  | cons r a ih => simp [flat4, ih]
theorem flat4_get (rs : List (Value × Value × Value × Value)) (j : Nat) : (flat4 rs)[j * 4]? = rs[j]?.map (·.1) ∧ (flat4 rs)[j * 4 + 1]? = rs[j]?.map (·.2.1) ∧ (flat4 rs)[j * 4 + 2]? = rs[j]?.map (·.2.2.1) ∧ (flat4 rs)[j * 4 + 3]? = rs[j]?.map (·.2.2.2) := by
  induction rs generalizing j with
  | nil => simp [flat4]
  | cons r rs ih =>
    cases j with
    | zero => simp [flat4]
    | succ j =>
      obtain ⟨h1, h2, h3, h4⟩ := ih j
      refine ⟨?_, ?_, ?_, ?_⟩
      · rw [show (j + 1) * 4 = j * 4 + 1 + 1 + 1 + 1 by omega]; simpa [flat4] using h1
      · rw [show (j + 1) * 4 + 1 = j * 4 + 1 + 1 + 1 + 1 + 1 by omega]; simpa [flat4] using h2
      · rw [show (j + 1) * 4 + 2 = j * 4 + 2 + 1 + 1 + 1 + 1 by omega]; simpa [flat4] using h3
      · rw [show (j + 1) * 4 + 3 = j * 4 + 3 + 1 + 1 + 1 + 1 by omega]; simpa [flat4] using h4
/-- Rows of series as the program has them: the fourth cell tells how many samples there are. -/
def RowsAre (rs : List (Value × Value × Value × Value)) (es : List Entry) : Prop := rs.length = es.length ∧ ∀ j (h : j < es.length), ∃ nm a n c tx sa sc, rs[j]? = some (.string nm, .slice a n c, .string tx, .slice sa (es[j]).count sc)
theorem RowsAre.snoc {rs : List (Value × Value × Value × Value)} {es : List Entry} (h : RowsAre rs es) (x : Entry) (nm : ByteArray) (a : Option Addr) (n c : Nat) (tx : ByteArray) (sa : Option Addr) (sc : Nat) :
    RowsAre (rs ++ [(.string nm, .slice a n c, .string tx, .slice sa x.count sc)]) (es ++ [x]) := by
  refine ⟨by simp [h.1], fun j hj => ?_⟩
  by_cases hlt : j < es.length
  · obtain ⟨nm', a', n', c', tx', sa', sc', e⟩ := h.2 j hlt
    exact ⟨nm', a', n', c', tx', sa', sc', by rw [List.getElem?_append_left (by rw [h.1]; exact hlt), e, List.getElem_append_left hlt]⟩
  · have hj' : j = es.length := by simp at hj; omega
    subst hj'
    refine ⟨nm, a, n, c, tx, sa, sc, ?_⟩
    rw [List.getElem?_append_right (by rw [h.1]; exact Nat.le_refl _), h.1]; simp

theorem SeriesV.grown {w w' : World} {l : List UInt8} {nm : ByteArray} {lv : Value} {tx : ByteArray} {sv : Value} {sn : Nat} (h : SeriesV w l nm lv tx sv sn) {b : Nat} {e : TypeId} {s : Nat} {v : Value} {n : Nat} {xs : List Value} (hg : w.grownBy w' v.ownBlock) (hv : w.ownsRow b e s v n xs) (h1 : 126 ≠ e) (h2 : 130 ≠ e) : SeriesV w' l nm lv tx sv sn := by
  obtain ⟨i, qs, e1, e2, e3, e4, e5⟩ := h
  exact ⟨i, qs, e1, e2, ⟨e3.1.kept hg (own_ne e3.1 hv h1), e3.2⟩, e4, e5.kept hg (own_ne e5 hv h2)⟩
/-- the rows are the lines' series. -/
def AllV (w : World) (rs : List (Value × Value × Value × Value)) (es : List Entry) (ps : List (List UInt8)) : Prop := ∀ j (h : j < es.length), ∃ (nm : ByteArray) (a : Option Addr) (n c : Nat) (tx : ByteArray) (sa : Option Addr) (sc : Nat), rs[j]? = some (.string nm, .slice a n c, .string tx, .slice sa (es[j]).count sc) ∧ SeriesV w (ps.getD (es[j]).at_ []) nm (.slice a n c) tx (.slice sa (es[j]).count sc) (es[j]).count ∧ line (ps.getD (es[j]).at_ []) = some ((es[j]).name, (es[j]).inside, (es[j]).count)
theorem AllV.below {w w' : World} {rs : List (Value × Value × Value × Value)} {es : List Entry} {ps : List (List UInt8)} (h : AllV w rs es ps) (hb : Below w.heap.size w w') : AllV w' rs es ps := fun j hj => by
  obtain ⟨nm, a, n, c, tx, sa, sc, e1, e2, e3⟩ := h j hj; exact ⟨nm, a, n, c, tx, sa, sc, e1, e2.below hb, e3⟩
theorem AllV.grown {w w' : World} {rs : List (Value × Value × Value × Value)} {es : List Entry} {ps : List (List UInt8)} (h : AllV w rs es ps) {b : Nat} {e : TypeId} {s : Nat} {v : Value} {n : Nat} {xs : List Value} (hg : w.grownBy w' v.ownBlock) (hv : w.ownsRow b e s v n xs) (h1 : 126 ≠ e) (h2 : 130 ≠ e) : AllV w' rs es ps := fun j hj => by
  obtain ⟨nm, a, n, c, tx, sa, sc, e1, e2, e3⟩ := h j hj; exact ⟨nm, a, n, c, tx, sa, sc, e1, e2.grown hg hv h1 h2, e3⟩
theorem AllV.snoc {w : World} {rs : List (Value × Value × Value × Value)} {es : List Entry} {ps : List (List UInt8)} (hl : rs.length = es.length) (h : AllV w rs es ps) (z : Entry) (nm : ByteArray) (a : Option Addr) (n c : Nat) (tx : ByteArray) (sa : Option Addr) (sc : Nat)
    (h1 : SeriesV w (ps.getD z.at_ []) nm (.slice a n c) tx (.slice sa z.count sc) z.count) (h2 : line (ps.getD z.at_ []) = some (z.name, z.inside, z.count)) : AllV w (rs ++ [(.string nm, .slice a n c, .string tx, .slice sa z.count sc)]) (es ++ [z]) ps := fun j hj => by
  by_cases hlt : j < es.length
  · obtain ⟨nm', a', n', c', tx', sa', sc', e1, e2⟩ := h j hlt
    refine ⟨nm', a', n', c', tx', sa', sc', ?_⟩
    rw [List.getElem?_append_left (by rw [hl]; exact hlt), List.getElem_append_left hlt]
    exact ⟨e1, e2⟩
  · have hj' : j = es.length := by simp at hj; omega
    subst hj'
    refine ⟨nm, a, n, c, tx, sa, sc, ?_⟩
    rw [List.getElem?_append_right (by rw [hl]; exact Nat.le_refl _), hl]
    simp only [Nat.sub_self, List.getElem?_cons_zero, List.getElem_append_right (Nat.le_refl _), List.getElem_cons_zero]
    exact ⟨trivial, h1, h2⟩

set_option maxRecDepth 100000 in
set_option maxHeartbeats 2000000 in
theorem readLines_any (g : Nat) (ps : List (List UInt8)) (n : Nat) (A : Nat → Addr) (m : Int) (w : World) (hn : Hid (n = ps.length)) (hn6 : n ≤ 6001) (hp6 : Hid (∀ i, i < ps.length → (ps.getD i []).length ≤ 6000)) (hrow : StrRow w g ps) (hv : Vars w A m) :
    Calls Tryd.prog 15 #[.slice (some ⟨g, 0, none⟩) n n] w fun e w' => Below w.heap.size w w' ∧
      ((∃ (i : Nat) (fa : Nat), e = .returned (.tuple #[.slice none 0 0, .iface 53 (.pointer (some ⟨fa, 0, none⟩))]) ∧ w'.heap[fa]? = some (.cells #[.string ⟨#[108, 105, 110, 101]⟩, .int .i64 i, .iface 155 (.pointer (some (A 5)))] 57 (0, 0)) ∧ Hid (linesAcc 0 [] ps = .inl i)) ∨
       (∃ (v : Value) (es : List Entry) (rs : List (Value × Value × Value × Value)), e = .returned (.tuple #[v, .nilIface]) ∧ w'.ownsRow 0 71 4 v es.length (flat4 rs) ∧ Hid (RowsAre rs es ∧ linesAcc 0 [] ps = .inr es) ∧ Hid (AllV w' rs es ps))) := by
  obtain ⟨i0, hi, hz0, hz1, hz2⟩ := info_parts Tryd.infoSeries
  have hgl : g < w.heap.size := hrow.1
  go_enter Tryd.func15, Tryd.ntmps15
  go_wp2
  go_loopw [4, 11] (fun v i wr => ∃ (k : Nat) (es : List Entry) (rs : List (Value × Value × Value × Value)), k ≤ n ∧ i = .int .i64 k ∧ es.length ≤ k ∧ wr.ownsRow w.heap.size 71 4 v es.length (flat4 rs) ∧ Hid (RowsAre rs es ∧ linesAcc 0 [] ps = linesAcc k es (ps.drop k)) ∧ Hid (AllV wr rs es ps) ∧ Below w.heap.size w wr)
    (fun _ i _ => n - (intOf i).toNat)
  case atStart => exact ⟨0, [], [], Nat.zero_le _, rfl, Nat.zero_le _, World.ownsRow_nil _ _ _ _, ⟨⟨rfl, fun j h => by simp at h⟩, rfl⟩, hid (fun j h => by simp at h), Below.refl _ _⟩
  case round =>
    obtain ⟨k, es, rs, hk, rfl, hek, hown, HA, HAV, hbr⟩ := hrel
    have hwr : w.heap.size ≤ wr.heap.size := hbr.size
    have hvr := hv.below hbr
    by_cases hlt : k < n
    · have hkl : k < ps.length := by rw [← hn.out]; exact hlt
      obtain ⟨sk, hck, hsk⟩ := (hrow.below hbr hgl).2 k hkl
      have hsk6 : sk.size ≤ 6000 := by rw [size_of_bl hsk]; exact hp6.out k hkl
      have HK : Hid (bl sk = ps.getD k []) := hsk
      clear hsk
      cases he : sk.toList.isEmpty
      · have HNE : Hid (ps.getD k [] ≠ []) := by rw [← HK.out]; exact ne_of_nonempty he
        have hmr := hvr.max
        have hst := hvr.sent 5 (by decide)
        go_wp2_with fail
        refine (readSeries_any sk m _ hsk6 hmr).mono ?_
        rintro e w2 ⟨nm, la, ln, lc, tx, sa, sn, sc, ok, rfl, hser, hb2⟩
        have hst2 : w2.cell? ⟨5, 0, none⟩ = some (.iface 155 (.pointer (some (A 5)))) := (hvr.below hb2).sent _ (by decide)
        have hst3 : ∀ o, (w2.alloc o).cell? ⟨5, 0, none⟩ = some (.iface 155 (.pointer (some (A 5)))) := fun o => ((hvr.below hb2).alloc o).sent _ (by decide)
        have hbw : Below w.heap.size w w2 := hbr.trans (hb2.mono hwr)
        have hw2 : w.heap.size ≤ w2.heap.size := hbw.size
        have hown2 := own_below hown hb2
        clear hst hmr hvr
        cases ok
        · have HF : Hid (linesAcc 0 [] ps = .inl k) := hid (by
            rw [HA.out.2]; refine linesAcc_bad hkl HNE.out ?_
            rw [← HK.out]
            rcases hser.out with ⟨h, _⟩ | ⟨_, h⟩
            · cases h
            · exact h)
          go_wp2_with (go_at_call 26; refine (atLine_any _ _ _).mono ?_; rintro e w' ⟨rfl, rfl⟩)
          go_ret2
          refine ⟨belB, Or.inl ⟨k, w2.heap.size + 1, rfl, ?_, HF⟩⟩
          rw [show w2.heap.size + 1 = (w2.alloc (.cells #[.string nm, .slice la ln lc, .string tx, .slice sa sn sc] 71)).heap.size by simp]
          exact Array.getElem?_push_size
        · have HSV : Hid (SeriesV w2 (bl sk) nm (.slice la ln lc) tx (.slice sa sn sc) sn) := hid (by
            rcases hser.out with ⟨_, h⟩ | ⟨h, _⟩
            · exact h
            · cases h)
          obtain ⟨na, ins, hli⟩ : ∃ name inside, line (bl sk) = some (name, inside, sn) := by
            obtain ⟨ins, qs, h, _⟩ := HSV.out; exact ⟨_, ins, h⟩
          have HAV2 : Hid (AllV w2 (rs ++ [(.string nm, .slice la ln lc, .string tx, .slice sa sn sc)]) (es ++ [⟨k, na, ins, sn⟩]) ps) := hid (AllV.snoc HA.out.1.1 (HAV.out.below hb2) ⟨k, na, ins, sn⟩ nm la ln lc tx sa sc (by show SeriesV w2 (ps.getD k []) nm (.slice la ln lc) tx (.slice sa sn sc) sn; rw [← HK.out]; exact HSV.out) (by show line (ps.getD k []) = some (na, ins, sn); rw [← HK.out]; exact hli))
          have HF : Hid (RowsAre (rs ++ [(.string nm, .slice la ln lc, .string tx, .slice sa sn sc)]) (es ++ [⟨k, na, ins, sn⟩]) ∧ linesAcc 0 [] ps = linesAcc (k + 1) (es ++ [⟨k, na, ins, sn⟩]) (ps.drop (k + 1))) :=
            ⟨HA.out.1.snoc ⟨k, na, ins, sn⟩ nm la ln lc tx sa sc, by rw [HA.out.2]; exact linesAcc_cons hkl HNE.out (by rw [← HK.out]; exact hli)⟩
          clear hli hser
          go_wp2_with (at_builtin; refine wpList_append_own _ rfl (.tmp 28) (.tmp 30) 31 rfl w.heap.size 71 i0 (.agg #[.string ByteArray.empty, .slice none 0 0, .string ByteArray.empty, .slice none 0 0]) 4 80 Tryd.underlying31 hi hz0 hz1 hz2 rfl (by decide) _ _ _ rfl ((hown2.alloc _).alloc _) ⟨w2.heap.size + 1, 0, none⟩ 1 1 [.string nm, .slice la ln lc, .string tx, .slice sa sn sc] rfl rfl ?c1 ?c2 ?c3 ?c4 ?c5 ?_)
          case c1 => exact cells_four (by simp) (by simp) (by simp) (by simp)
          case c2 => intro u hu; simp at hu; rcases hu with rfl | rfl | rfl | rfl <;> rfl
          case c3 => unfold maxLen; omega
          case c4 => omega
          case c5 => simp; omega
          intro v' w3 hown3 hgrow _
          have hb3 : Below w.heap.size w w3 := ((hbw.alloc (by omega) _).alloc (by simp; omega) _).grown hgrow (by simp; omega) (fun q hq => (hown2.lt q hq).1)
          have hown4 : w3.ownsRow w.heap.size 71 4 v' (es ++ [(⟨k, na, ins, sn⟩ : Entry)]).length (flat4 (rs ++ [(.string nm, .slice la ln lc, .string tx, .slice sa sn sc)])) := by
            rw [flat4_append, List.length_append]; exact hown3
          have hb23 : ∀ o o' : Obj, Below w2.heap.size w2 ((w2.alloc o).alloc o') := fun o o' => ((Below.refl _ _).alloc (Nat.le_refl _) _).alloc (by simp) _
          have HAV3 : Hid (AllV w3 (rs ++ [(.string nm, .slice la ln lc, .string tx, .slice sa sn sc)]) (es ++ [⟨k, na, ins, sn⟩]) ps) := hid ((HAV2.out.below (hb23 _ _)).grown hgrow ((hown2.alloc _).alloc _) (by decide) (by decide))
          clear hown2 hown hgrow hown3 hb23
          go_wp2
          go_roundw
          case rel => exact ⟨k + 1, _, _, by omega, by go_num, by simp; omega, hown4, HF, HAV3, hb3⟩
          case measure => simp [intOf]; omega
      · have HF : Hid (RowsAre rs es ∧ linesAcc 0 [] ps = linesAcc (k + 1) es (ps.drop (k + 1))) :=
          ⟨HA.out.1, by rw [HA.out.2]; exact linesAcc_empty hkl (by rw [← HK.out]; exact nil_of_empty he)⟩
        go_wp2
        go_roundw
        case rel => exact ⟨k + 1, es, rs, by omega, by go_num, by omega, hown, HF, HAV, hbr⟩
        case measure => simp [intOf]; omega
    · have HF : Hid (RowsAre rs es ∧ linesAcc 0 [] ps = .inr es) := ⟨HA.out.1, by rw [HA.out.2]; exact linesAcc_end (by rw [← hn.out]; exact hlt)⟩
      go_wp2
      go_ret2
      exact ⟨hbr, Or.inr ⟨_, es, rs, rfl, hown.mono (Nat.zero_le _), HF, HAV⟩⟩
end Go.Proofs.YtmncdbepjhmkgaaDoor
