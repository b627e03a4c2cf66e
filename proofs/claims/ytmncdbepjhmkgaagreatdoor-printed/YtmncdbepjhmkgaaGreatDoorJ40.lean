/- Parts of the proof, joined: DWr -/
import Derived.Test.YtmncdbepjhmkgaaGreatDoorJ37
import Derived.Test.YtmncdbepjhmkgaaGreatDoorJ39
import Derived.Test.YtmncdbepjhmkgaaGreatDoorShelf
import Derived.Test.YtmncdbepjhmkgaaGreatDoorJ17
import Derived.WalkSmall
/- What the program's printing does to a builder. -/
namespace Go.Proofs.YtmncdbepjhmkgaaGreatDoor
open Go.RowKit LS

theorem at_below {T e : TypeId} {B b : Nat} {p : Value} {bs : List Value} {w w' : World} (h : Lib.BuilderAtF T e B b p bs w) (hb : Below w.heap.size w w') : Lib.BuilderAtF T e B b p bs w' := by
  obtain ⟨h1, v, h2, ⟨h3, h4⟩, h5⟩ := h
  refine ⟨h1, v, (hb.block b (Array.getElem?_eq_some_iff.1 h2).1).trans h2, ⟨h3, ?_⟩, h5⟩
  rcases h4 with h6 | ⟨g, cap, cur, fz, h6, h7, h8, h9⟩
  · exact Or.inl h6
  · exact Or.inr ⟨g, cap, cur, fz, h6, h7, (hb.block g (Array.getElem?_eq_some_iff.1 h8).1).trans h8, h9⟩
theorem bld_below {T e : TypeId} {B b : Nat} {bs : List Value} {w w' : World} (h : Lib.IsBuilderF T e B b bs w) (hb : Below w.heap.size w w') : Lib.IsBuilderF T e B b bs w' := by
  rcases h with h | h
  · exact Or.inl (at_below h hb)
  · exact Or.inr (at_below h hb)
theorem others_below {e : TypeId} {b : Option Nat} {w w' : World} (h : Below w.heap.size w w') : Lib.OthersKept e b w w' := fun k _ hk _ _ => (h.block k (Array.getElem?_eq_some_iff.1 hk).1).trans hk
/-- A builder that holds these bytes. -/
structure WB (w : World) (B b : Nat) (l : List UInt8) : Prop where
  bd : Lib.IsBuilderF 67 5 B b (Lib.byteCells l) w
  le : B ≤ w.heap.size
/-- What writing into it leaves as it was. -/
structure WK (B b : Nat) (w w' : World) : Prop where
  low : Below B w w'
  kept : Lib.OthersKept 5 (some b) w w'
theorem WK.refl (B b : Nat) (w : World) : WK B b w w := ⟨Below.refl _ _, Lib.OthersKept.refl _ _ _⟩
theorem WK.trans {B b : Nat} {w1 w2 w3 : World} (h : WK B b w1 w2) (h' : WK B b w2 w3) : WK B b w1 w3 := ⟨h.low.trans h'.low, h.kept.trans h'.kept⟩
theorem WK.below {B b : Nat} {w w' : World} (h : Below w.heap.size w w') (hB : B ≤ w.heap.size) : WK B b w w' := ⟨h.mono hB, others_below h⟩
theorem WB.below {w w' : World} {B b : Nat} {l : List UInt8} (h : WB w B b l) (hb : Below w.heap.size w w') : WB w' B b l := ⟨bld_below h.bd hb, Nat.le_trans h.le hb.size⟩
theorem WB.ne {w : World} {B b : Nat} {l : List UInt8} (h : WB w B b l) : b < w.heap.size ∧ ∃ c, w.heap[b]? = some (.cells c 67 (0, 0)) := by
  rcases h.bd with h | h
  · obtain ⟨_, v, hb, _⟩ := h; exact ⟨(Array.getElem?_eq_some_iff.1 hb).1, _, hb⟩
  · obtain ⟨_, v, hb, _⟩ := h; exact ⟨(Array.getElem?_eq_some_iff.1 hb).1, _, hb⟩
/-- a block of another kind stays. -/
theorem WK.block {w w' : World} {B b : Nat} {l : List UInt8} (hw : WB w B b l) (h : WK B b w w') {a : Nat} {c : Array Value} {t : TypeId} {fr : Nat × Nat} (ha : w.heap[a]? = some (.cells c t fr)) (h1 : t ≠ 67) (h2 : t ≠ 5) : w'.heap[a]? = some (.cells c t fr) := by
  refine h.kept a _ ha ?_ ?_
  · intro e
    injection e with e
    subst e
    obtain ⟨_, c', hb⟩ := hw.ne
    rw [hb] at ha
    injection ha with ha
    injection ha with _ ha
    exact h1 ha.symm
  · intro c' fz e
    injection e with _ e
    exact h2 e
theorem WK.bat {w w' : World} {B b : Nat} {l : List UInt8} (hw : WB w B b l) (h : WK B b w w') {a : Nat} {c : List Value} {t : TypeId} (ha : BAt w a c t) (h1 : t ≠ 67) (h2 : t ≠ 5) : BAt w' a c t := WK.block hw h ha h1 h2
theorem WK.own {w w' : World} {B b : Nat} {l : List UInt8} (hw : WB w B b l) (h : WK B b w w') {base : Nat} {e : TypeId} {size : Nat} {v : Value} {n : Nat} {xs : List Value} (ho : w.ownsRow base e size v n xs) (h1 : e ≠ 67) (h2 : e ≠ 5) : w'.ownsRow base e size v n xs := by
  refine ⟨ho.1, ?_⟩
  rcases ho.2 with h3 | ⟨g, cap, cur, h3, h4, h5, h6⟩
  · exact Or.inl h3
  · exact Or.inr ⟨g, cap, cur, h3, h4, WK.block hw h h5 h1 h2, h6⟩
theorem PartV.wrote {w w' : World} {B b : Nat} {l : List UInt8} (hw : WB w B b l) (h : WK B b w w') {t : Tr} {v : Value} (hp : PartV w t v) : PartV w' t v :=
  PartV.mono (fun _ _ ⟨bs, h1, h2⟩ => ⟨bs, WK.own hw h h1 (by decide) (by decide), h2⟩) (fun _ _ ⟨bs, h1, h2⟩ => ⟨bs, WK.own hw h h1 (by decide) (by decide), h2⟩) t v hp
theorem CondsV.wrote {w w' : World} {B b : Nat} {l : List UInt8} (hw : WB w B b l) (h : WK B b w w') {v : Value} {cs : List (List UInt8 × List UInt8 × Bool)} (hp : CondsV w v cs) : CondsV w' v cs := by
  obtain ⟨bs, h1, h2⟩ := hp; exact ⟨bs, WK.own hw h h1 (by decide) (by decide), h2⟩
theorem NamesV.wrote {w w' : World} {B b : Nat} {l : List UInt8} (hw : WB w B b l) (h : WK B b w w') {v : Value} {cs : List (List UInt8)} (hp : NamesV w v cs) : NamesV w' v cs := by
  obtain ⟨bs, h1, h2⟩ := hp; exact ⟨bs, WK.own hw h h1 (by decide) (by decide), h2⟩
theorem bytes_app (l : List UInt8) (s : ByteArray) : Lib.byteCells l ++ Lib.strCells s = Lib.byteCells (l ++ bl s) := by
  unfold Lib.byteCells Lib.strCells bl
  rw [List.map_append]
/-- The limit below which all texts stay. -/
def big : Nat := 1000000
theorem put_t {w : World} {B b : Nat} {l : List UInt8} (h : WB w B b l) (s : ByteArray) (hl : l.length + s.size ≤ big) :
    Calls Tryz.prog 52 #[.pointer (some ⟨b, 0, none⟩), .string s] w fun e w' => e = .returned (.tuple #[.int .i64 s.size, .nilIface]) ∧ Hid (WB w' B b (l ++ bl s)) ∧ Hid (WK B b w w') := by
  refine (bld_write B b (Lib.byteCells l) s w h.bd (by rw [Lib.byteCells_length]; unfold big at hl; omega) h.le).mono ?_
  rintro e w' ⟨rfl, h1, h2, h3⟩
  rw [bytes_app] at h1
  exact ⟨rfl, ⟨Or.inr h1, Nat.le_trans h.le h2.size⟩, ⟨h2, h3⟩⟩
theorem dec_itoa (n : Nat) : Lib.decDigits n = decS n := by
  induction n using Nat.strongRecOn with
  | _ n ih =>
    by_cases h : n ≤ 9
    · rw [decS_small h, Lib.decDigits, dif_pos (by omega)]
      rfl
    · rw [decS_great h, Lib.decDigits, dif_neg (by omega), ih (n / 10) (by omega)]
      rfl
/-- The table that strconv looks into. -/
def PowTab (w : World) : Prop := Lib.TabIs Tryz.prog w "internal/strconv.uint64pow10" .u64 Lib.pow10Tab
theorem Tryz.gPow : Tryz.prog.globalNamed "internal/strconv.uint64pow10" = some 15 := by kernel_rfl
theorem PowTab.low {w w' : World} {B : Nat} (h : PowTab w) (hb : Below B w w') (hB : 18 ≤ B) : PowTab w' := var?_below hb Tryz.gPow (Nat.lt_of_lt_of_le (by decide) hB) h
theorem itoa_t {w : World} (h : PowTab w) (n : Int) (h0 : 0 ≤ n) (h1 : n ≤ 1000000000) :
    Calls Tryz.prog 53 #[.int .i64 n] w fun e w' => ∃ s : ByteArray, e = .returned (.string s) ∧ Hid (bl s = decS n.toNat) ∧ Below w.heap.size w w' := by
  refine (Tryz.strconv_Itoa n (by omega) (by omega) w h).mono ?_
  rintro e w' ⟨rfl, k, os, rfl⟩
  refine ⟨_, rfl, hid ?_, ?_⟩
  · rw [bl_mk]; unfold Lib.itoa; rw [if_neg (by omega), dec_itoa]
  · exact ⟨rfl, rfl, rfl, by simp [Go.Sort.grow, World.drewN], fun k hk => by simp [Go.Sort.grow, World.drewN, Array.getElem?_append, hk]⟩
end Go.Proofs.YtmncdbepjhmkgaaGreatDoor
