/- The library's cutting and splitting at a separator of one byte, in the words of the plain functions; rows of strings in memory; what stays owned. -/
import Derived.Test.YtmncdbepjhmkgaaDoorShelf
import Derived.Test.YtmncdbepjhmkgaaDoorNum
import Derived.Test.YtmncdbepjhmkgaaDoorOwnC
import Derived.Test.YtmncdbepjhmkgaaDoorPure2
namespace Go.Proofs.YtmncdbepjhmkgaaDoor
open Go.RowKit LS


/-- strings.Cut where the separator is there. -/
theorem cut_hit_big {c : UInt8} {s : ByteArray} {x y : List UInt8} (m : Int) (w : World) (hs : s.size ≤ 70000) (hm : w.cell? ⟨14, 0, none⟩ = some (.int .i64 m)) (h : cut c (bl s) = some (x, y)) :
    Calls Tryd.prog 27 #[.string s, .string ⟨#[c]⟩] w fun e w' => ∃ a b : ByteArray, e = .returned (.tuple #[.string a, .string b, .bool true]) ∧ Hid (bl a = x ∧ bl b = y) ∧ ∃ n, w' = w.drewN n := by
  refine (Tryd.strings_Cut s ⟨#[c]⟩ m w (by omega) hm).mono ?_
  rintro e w' ⟨rfl, hw⟩
  have e1 : Lib.cut s.data.toList (⟨#[c]⟩ : ByteArray).data.toList = (x, y, true) := libcut_some h
  rw [e1]
  exact ⟨_, _, rfl, ⟨bl_mk x, bl_mk y⟩, hw⟩
theorem cut_hit {c : UInt8} {s : ByteArray} {x y : List UInt8} (m : Int) (w : World) (hs : s.size ≤ 6000) (hm : w.cell? ⟨14, 0, none⟩ = some (.int .i64 m)) (h : cut c (bl s) = some (x, y)) :
    Calls Tryd.prog 27 #[.string s, .string ⟨#[c]⟩] w fun e w' => ∃ a b : ByteArray, e = .returned (.tuple #[.string a, .string b, .bool true]) ∧ Hid (bl a = x ∧ bl b = y) ∧ ∃ n, w' = w.drewN n := cut_hit_big m w (by omega) hm h
theorem cut_miss_big {c : UInt8} {s : ByteArray} (m : Int) (w : World) (hs : s.size ≤ 70000) (hm : w.cell? ⟨14, 0, none⟩ = some (.int .i64 m)) (h : cut c (bl s) = none) :
    Calls Tryd.prog 27 #[.string s, .string ⟨#[c]⟩] w fun e w' => ∃ a b : ByteArray, e = .returned (.tuple #[.string a, .string b, .bool false]) ∧ Hid (bl a = bl s ∧ bl b = []) ∧ ∃ n, w' = w.drewN n := by
  refine (Tryd.strings_Cut s ⟨#[c]⟩ m w (by omega) hm).mono ?_
  rintro e w' ⟨rfl, hw⟩
  have e1 : Lib.cut s.data.toList (⟨#[c]⟩ : ByteArray).data.toList = (bl s, [], false) := libcut_none h
  rw [e1]
  exact ⟨_, _, rfl, ⟨bl_mk _, bl_mk _⟩, hw⟩
theorem cut_miss {c : UInt8} {s : ByteArray} (m : Int) (w : World) (hs : s.size ≤ 6000) (hm : w.cell? ⟨14, 0, none⟩ = some (.int .i64 m)) (h : cut c (bl s) = none) :
    Calls Tryd.prog 27 #[.string s, .string ⟨#[c]⟩] w fun e w' => ∃ a b : ByteArray, e = .returned (.tuple #[.string a, .string b, .bool false]) ∧ Hid (bl a = bl s ∧ bl b = []) ∧ ∃ n, w' = w.drewN n := cut_miss_big m w (by omega) hm h
theorem cutPrefix_any (c : UInt8) (s : ByteArray) (w : World) :
    Calls Tryd.prog 54 #[.string s, .string ⟨#[c]⟩] w fun e w' => ∃ a : ByteArray, e = .returned (.tuple #[.string a, .bool (strip c (bl s)).2]) ∧ Hid (bl a = (strip c (bl s)).1) ∧ w' = w := by
  refine (Tryd.strings_CutPrefix s ⟨#[c]⟩ w).mono ?_
  rintro e w' ⟨rfl, hw⟩
  have e1 := libstrip c (bl s)
  rw [← e1]
  exact ⟨_, rfl, bl_mk _, hw⟩

/-- A row of strings: block g holds these texts from its head on. -/
def StrRow (w : World) (g : Nat) (ps : List (List UInt8)) : Prop := g < w.heap.size ∧ ∀ i, i < ps.length → ∃ s : ByteArray, w.cell? ⟨g, i, none⟩ = some (.string s) ∧ bl s = ps.getD i []
theorem StrRow.below {w w' : World} {g : Nat} {ps : List (List UInt8)} {B : Nat} (h : StrRow w g ps) (hb : Below B w w') (hB : g < B) : StrRow w' g ps :=
  ⟨Nat.lt_of_lt_of_le h.1 hb.size, fun i hi => by
    obtain ⟨s, h1, h2⟩ := h.2 i hi
    exact ⟨s, (hb.cell (p := ⟨g, i, none⟩) hB).trans h1, h2⟩⟩

theorem split_big (c : UInt8) (s : ByteArray) (m : Int) (w : World) (hs : s.size ≤ 70000) (hm : w.cell? ⟨14, 0, none⟩ = some (.int .i64 m)) :
    Calls Tryd.prog 14 #[.string s, .string ⟨#[c]⟩] w fun e w' =>
      ∃ n, e = .returned (.slice (some ⟨w.heap.size, 0, none⟩) n n) ∧ n = (split c (bl s)).length ∧ StrRow w' w.heap.size (split c (bl s)) ∧ Below w.heap.size w w' := by
  refine (Tryd.strings_Split s ⟨#[c]⟩ m w (by omega) hm (Nat.le_refl 1)).mono ?_
  rintro e w' ⟨rfl, rfl⟩
  have hd : (Lib.splitB ⟨#[c]⟩ 0 (Lib.countB s ⟨#[c]⟩) s).map bl = split c (bl s) := by
    refine (Lib.splitB_data ⟨#[c]⟩ 0 (Lib.countB s ⟨#[c]⟩) s).trans ?_
    exact splitK_one c _ (bl s) (Nat.le_refl _)
  have hl : (Lib.splitB ⟨#[c]⟩ 0 (Lib.countB s ⟨#[c]⟩) s).length = Lib.countB s ⟨#[c]⟩ + 1 := Lib.splitB_all ⟨#[c]⟩ (Nat.le_refl 1) 0 _ s rfl
  have hl2 : (split c (bl s)).length = Lib.countB s ⟨#[c]⟩ + 1 := by rw [← hd, List.length_map, hl]
  refine ⟨_, rfl, hl2.symm, ⟨by simp, fun i hi => ?_⟩, (Below.refl _ _).alloc (Nat.le_refl _) _⟩
  have hi2 : i < (Lib.splitB ⟨#[c]⟩ 0 (Lib.countB s ⟨#[c]⟩) s).length := by rw [hl, ← hl2]; exact hi
  refine ⟨(Lib.splitB ⟨#[c]⟩ 0 (Lib.countB s ⟨#[c]⟩) s)[i], ?_, ?_⟩
  · rw [World.cell?_alloc_at _ _ _ _ rfl]
    simp [hi2]
  · rw [← hd]; simp [hi2]
theorem split_any (c : UInt8) (s : ByteArray) (m : Int) (w : World) (hs : s.size ≤ 6000) (hm : w.cell? ⟨14, 0, none⟩ = some (.int .i64 m)) :
    Calls Tryd.prog 14 #[.string s, .string ⟨#[c]⟩] w fun e w' =>
      ∃ n, e = .returned (.slice (some ⟨w.heap.size, 0, none⟩) n n) ∧ n = (split c (bl s)).length ∧ StrRow w' w.heap.size (split c (bl s)) ∧ Below w.heap.size w w' := split_big c s m w (by omega) hm
end Go.Proofs.YtmncdbepjhmkgaaDoor
