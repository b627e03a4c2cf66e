/- Parts. -/
import Derived.Test.YtpbemaaghbbocaaGreatDoorA24
import Derived.Test.YtpbemaaghbbocaaGreatDoorA01
import Derived.BigRegion
import Derived.Deep.Onto
import Derived.Test.YtpbemaaghbbocaaGreatDoorA17
import Derived.Test.YtpbemaaghbbocaaGreatDoorA20
import Derived.Test.YtpbemaaghbbocaaGreatDoorA04
import Derived.Deep.LoopGhost
import Derived.Deep.QuietTactic
import Derived.BigQuiet
import Derived.Test.YtpbemaaghbbocaaGreatDoorA08
import Derived.Test.YtpbemaaghbbocaaGreatDoorA16
import Derived.Deep.RegionHeld3
import Derived.Deep.DrawnRows
import Derived.Deep.CutBlock
namespace Go.Proofs.YtpbemaaghbbocaaGreatDoor
open Go.RowKit LS
def sumTo (es : List Entry) (k : Nat) : Nat := ((es.take k).map (·.count)).sum
theorem sumTo_succ (es : List Entry) (k : Nat) (h : k < es.length) : sumTo es (k + 1) = sumTo es k + (es[k]).count := by
  unfold sumTo; rw [List.take_succ_eq_append_getElem h, List.map_append, List.sum_append]; rfl
theorem sumTo_le (es : List Entry) (h : ∀ e ∈ es, e.count ≤ 6001) (k : Nat) : sumTo es k ≤ 6001 * k := by
  induction k with
  | zero => simp [sumTo]
  | succ k ih =>
    by_cases hk : k < es.length
    · rw [sumTo_succ es k hk]; have := h _ (List.getElem_mem hk); omega
    · have : sumTo es (k + 1) = sumTo es k := by unfold sumTo; rw [List.take_of_length_le (by omega), List.take_of_length_le (by omega)]
      omega
set_option maxRecDepth 100000 in
set_option maxHeartbeats 1000000 in
theorem countSamples_any (v : Value) (es : List Entry) (rs : List (Value × Value × Value × Value)) (w : World) (hown : w.ownsRow 0 199 4 v es.length (flat4 rs)) (hR : Hid (RowsAre rs es)) (hc : Hid (∀ e ∈ es, e.count ≤ 6001)) (hl : es.length ≤ 6001) :
    Calls Tryz.prog 45 #[v] w fun e w' => e = .returned (.int .i64 (sumTo es es.length)) ∧ Below w.heap.size w w' := by
  obtain ⟨av, cp, rfl⟩ := own_shape hown
  go_enter Tryz.func45, Tryz.ntmps45
  go_wp2
  go_loopw [3, 8] (fun c i wr => ∃ k : Nat, k ≤ es.length ∧ i = .int .i64 k ∧ c = .int .i64 (sumTo es k) ∧ Below w.heap.size w wr) (fun _ i _ => es.length - (intOf i).toNat)
  case atStart => exact ⟨0, Nat.zero_le _, rfl, by simp [sumTo], Below.refl _ _⟩
  case round =>
    obtain ⟨k, hk, rfl, rfl, hbr⟩ := hrel
    have hwr : w.heap.size ≤ wr.heap.size := hbr.size
    have hs1 := sumTo_le es hc.out k
    by_cases hlt : k < es.length
    · have HS : Hid (sumTo es (k + 1) = sumTo es k + (es[k]).count) := sumTo_succ es k hlt
      have hcb := hc.out _ (List.getElem_mem hlt)
      obtain ⟨nm, a, n, c, tx, sa, sc, hr⟩ := hR.out.2 k hlt
      obtain ⟨f1, f2, f3, f4⟩ := flat4_get rs k
      rw [hr] at f1 f2 f3 f4
      have hg : ∃ g, av = some ⟨g, 0, none⟩ := by
        obtain ⟨g, cp', h⟩ := own_some hown (by omega)
        injection h with h1; exact ⟨g, h1⟩
      obtain ⟨g, rfl⟩ := hg
      have hgl := own_lt hown
      have c1 : wr.cell? ⟨g, k * 4, none⟩ = some (.string nm) := (hbr.cell (p := ⟨g, k * 4, none⟩) hgl).trans (own_cell hown _ _ f1)
      have c2 : wr.cell? ⟨g, k * 4 + 1, none⟩ = some (.slice a n c) := (hbr.cell (p := ⟨g, k * 4 + 1, none⟩) hgl).trans (own_cell hown _ _ f2)
      have c3 : wr.cell? ⟨g, k * 4 + 2, none⟩ = some (.string tx) := (hbr.cell (p := ⟨g, k * 4 + 2, none⟩) hgl).trans (own_cell hown _ _ f3)
      have c4 : wr.cell? ⟨g, k * 4 + 3, none⟩ = some (.slice sa (es[k]).count sc) := (hbr.cell (p := ⟨g, k * 4 + 3, none⟩) hgl).trans (own_cell hown _ _ f4)
      generalize (es[k]).count = cnt at *
      clear hr f1 f2 f3 f4
      go_wp2
      go_roundw
      case rel => exact ⟨k + 1, by omega, by go_num, by rw [HS.out]; go_num, (by repeat (first | exact Below.refl _ _ | assumption | refine Below.alloc ?_ (by first | omega | (simp; omega) | simp) _ | refine Below.setCell ?_ (by first | omega | (simp; omega) | simp) _ | refine below_drewN' ?_ _ | refine Below.drew ?_))⟩
      case measure => simp [intOf]; omega
    · obtain rfl : k = es.length := by omega
      go_wp2
      go_ret
      exact ⟨rfl, hbr⟩
def flat2 : List (ByteArray × ByteArray) → List Value
  | [] => []
  | r :: rs => .string r.1 :: .string r.2 :: flat2 rs
def bl2 (r : ByteArray × ByteArray) : List UInt8 × List UInt8 := (bl r.1, bl r.2)
structure SamsV (w : World) (v : Value) (l : List (Int × Int)) : Prop where
  own : w.ownsRow 0 220 2 v l.length (flatP l)
  len : l.length ≤ 6001
  ok : ∀ x ∈ l, smOk x
theorem SamsV.below {w w' : World} {v : Value} {l : List (Int × Int)} (h : SamsV w v l) (hb : Below w.heap.size w w') : SamsV w' v l := ⟨own_below h.own hb, h.len, h.ok⟩
def writtenTo (ps : List (List UInt8 × List UInt8)) : Nat → List UInt8
  | 0 => []
  | k + 1 => (if 0 < k then writtenTo ps k ++ [44] else writtenTo ps k) ++ (ps.getD k ([], [])).1 ++ [61] ++ (ps.getD k ([], [])).2
theorem NamesAre.zero {w : World} {p : PV} {ns : List (List UInt8)} (h : NamesAre w 0 p ns) : ∃ bs : List ByteArray, p.bn = bs.length ∧ w.ownsRow 0 9 1 (.slice p.ba bs.length p.bc) bs.length (bs.map .string) ∧ bs.map bl = ns := by
  obtain ⟨bs, h1, h2⟩ := h
  obtain ⟨av, cp, hv⟩ := own_shape h1
  injection hv with _ hv _
  exact ⟨bs, hv, by rw [← hv]; rw [← hv] at h1; exact h1, h2⟩
structure LabsV (w : World) (v : Value) (l : List Lab) (qs : List (ByteArray × ByteArray)) : Prop where
  own : w.ownsRow 0 216 2 v qs.length (flat2 qs)
  say : qs.map bl2 = l
  len : qs.length ≤ 6001
  ok : ∀ q ∈ qs, q.1.size ≤ 6000 ∧ q.2.size ≤ 6000
theorem LabsV.below {w w' : World} {v : Value} {l : List Lab} {qs : List (ByteArray × ByteArray)} (h : LabsV w v l qs) (hb : Below w.heap.size w w') : LabsV w' v l qs := ⟨own_below h.own hb, h.say, h.len, h.ok⟩
theorem LabsV.drewN {w : World} {v : Value} {l : List Lab} {qs : List (ByteArray × ByteArray)} (h : LabsV w v l qs) (n : Nat) : LabsV (w.drewN n) v l qs := ⟨own_drewN h.own n, h.say, h.len, h.ok⟩
theorem bl_inj {a b : ByteArray} (h : bl a = bl b) : a = b := by
  cases a with | mk x => cases b with | mk y =>
    have : x = y := by
      have h1 : x.toList = y.toList := h
      exact Array.toList_inj.mp h1
    rw [this]
theorem writtenTo_wrt (l : List Lab) : ∀ k, k ≤ l.length → writtenTo l k = wrt (l.take k)
  | 0, _ => rfl
  | k + 1, h => by
    have hk : k < l.length := h
    rw [writtenTo, writtenTo_wrt l k (by omega)]
    unfold wrt
    rw [List.take_succ_eq_append_getElem hk, List.map_append, List.map_singleton, commas_snoc]
    have hg : l.getD k ([], []) = l[k] := by rw [List.getD_eq_getElem?_getD, List.getElem?_eq_getElem hk]; rfl
    rw [hg]
    by_cases h0 : 0 < k
    · rw [if_pos h0, if_neg]
      · simp [lab1]
      · rw [List.isEmpty_iff]
        intro e
        have := congrArg List.length e
        rw [List.length_map, List.length_take, List.length_nil] at this
        omega
    · obtain rfl : k = 0 := by omega
      simp [lab1, commas]
def flatE : List (Value × El) → List Value
  | [] => []
  | z :: l => z.1 :: .int .i64 z.2.2 :: flatE l
def ElOk (w : World) (z : Value × El) : Prop := (∃ qs, LabsV w z.1 z.2.1 qs) ∧ vOk z.2.2
theorem ElOk.below {w w' : World} {z : Value × El} (h : ElOk w z) (hb : Below w.heap.size w w') : ElOk w' z := ⟨h.1.elim fun qs hq => ⟨qs, hq.below hb⟩, h.2⟩
structure ElsV (w : World) (v : Value) (zs : List (Value × El)) : Prop where
  own : w.ownsRow 0 128 2 v zs.length (flatE zs)
  len : zs.length ≤ 1000000
  ok : ∀ z ∈ zs, ElOk w z
theorem ElsV.below {w w' : World} {v : Value} {zs : List (Value × El)} (h : ElsV w v zs) (hb : Below w.heap.size w w') : ElsV w' v zs := ⟨own_below h.own hb, h.len, fun z hz => (h.ok z hz).below hb⟩
structure NamsV (w : World) (v : Value) (ns : List ByteArray) : Prop where
  own : w.ownsRow 0 9 1 v ns.length (ns.map .string)
  len : ns.length ≤ 100000
theorem NamsV.below {w w' : World} {v : Value} {ns : List ByteArray} (h : NamsV w v ns) (hb : Below w.heap.size w w') : NamsV w' v ns := ⟨own_below h.own hb, h.len⟩
abbrev SZ := ByteArray × Value × Value × Ser
def flatSr : List SZ → List Value
  | [] => []
  | s :: l => .string s.1 :: s.2.1 :: s.2.2.1 :: flatSr l
def SerOk (w : World) (s : SZ) : Prop := bl s.1 = s.2.2.2.name ∧ (∃ qs, LabsV w s.2.1 s.2.2.2.labs qs) ∧ SamsV w s.2.2.1 s.2.2.2.sams
theorem SerOk.below {w w' : World} {s : SZ} (h : SerOk w s) (hb : Below w.heap.size w w') : SerOk w' s := ⟨h.1, h.2.1.elim fun qs hq => ⟨qs, hq.below hb⟩, h.2.2.below hb⟩
structure StoV (w : World) (v : Value) (ss : List SZ) : Prop where
  own : w.ownsRow 0 122 3 v ss.length (flatSr ss)
  len : ss.length ≤ 900
  ok : ∀ s ∈ ss, SerOk w s
theorem StoV.below {w w' : World} {v : Value} {ss : List SZ} (h : StoV w v ss) (hb : Below w.heap.size w w') : StoV w' v ss := ⟨own_below h.own hb, h.len, fun s hs => (h.ok s hs).below hb⟩
def plainS (ss : List SZ) : List Ser := ss.map (·.2.2.2)
theorem LabsV.other {w w' : World} {v : Value} {l : List Lab} {qs : List (ByteArray × ByteArray)} (h : LabsV w v l qs) {a : Nat} {c : List Value} (hq : BAt w a c 76) (hg : ∀ j, j ≠ a → w'.heap[j]? = w.heap[j]?) : LabsV w' v l qs :=
  ⟨own_same h.own (fun j hj => hg j (fun e => own_ne_block h.own hq (by decide) (by rw [hj, e]))), h.say, h.len, h.ok⟩
theorem ElsV.other {w w' : World} {v : Value} {zs : List (Value × El)} (h : ElsV w v zs) {a : Nat} {c : List Value} (hq : BAt w a c 76) (hg : ∀ j, j ≠ a → w'.heap[j]? = w.heap[j]?) : ElsV w' v zs :=
  ⟨own_same h.own (fun j hj => hg j (fun e => own_ne_block h.own hq (by decide) (by rw [hj, e]))), h.len, fun z hz => ⟨(h.ok z hz).1.elim fun qs hq' => ⟨qs, hq'.other hq hg⟩, (h.ok z hz).2⟩⟩
structure WinI (w wr : World) (p : PV) (vv : Value) (zs : List (Value × El)) : Prop where
  bel : Below w.heap.size w wr
  pb : PAt wr w.heap.size p
  rb : BAt wr (w.heap.size + 1) [.bool false, .int .i64 0, .slice none 0 0] 76
  vb : BAt wr (w.heap.size + 2) [.bool false, .int .i64 0, vv] 76
  els : ElsV wr vv zs
theorem WinI.below {w wr w' : World} {p : PV} {vv : Value} {zs : List (Value × El)} (h : WinI w wr p vv zs) (hb : Below wr.heap.size wr w') : WinI w w' p vv zs :=
  ⟨h.bel.trans (hb.mono h.bel.size), (hb.block _ h.pb.lt).trans h.pb, h.rb.below hb, h.vb.below hb, h.els.below hb⟩
theorem WinI.set {w wr : World} {p : PV} {vv rv : Value} {zs zs' : List (Value × El)} (h : WinI w wr p vv zs) (he : ElsV wr rv zs') : WinI w (wr.setCell ⟨w.heap.size + 2, 2, none⟩ rv) p rv zs' := by
  have hg : ∀ j, j ≠ w.heap.size + 2 → (wr.setCell ⟨w.heap.size + 2, 2, none⟩ rv).heap[j]? = wr.heap[j]? := fun j hj => Go.Deep.blk_setCell_other _ _ _ _ hj
  refine ⟨h.bel.setCell (p := ⟨w.heap.size + 2, 2, none⟩) (by show w.heap.size ≤ w.heap.size + 2; omega) _, (hg _ (by omega)).trans h.pb, (hg _ (by omega)).trans h.rb, ?_, he.other h.vb hg⟩
  have := h.vb
  unfold BAt at this ⊢
  simp only [World.setCell, Array.getElem?_modify, this, if_true, Option.map_some]; rfl
theorem decS_lenE (n : Nat) : (decS n).length ≤ n + 1 := by
  induction n using Nat.strongRecOn with
  | ind n ih =>
    by_cases h : n ≤ 9
    · rw [decS_small h]; simp
    · rw [decS_great h, List.length_append]
      have := ih (n / 10) (by omega)
      simp only [List.length_cons, List.length_nil]
      omega
theorem decI_len (n : Int) (h : vOk n) : (decI n).length ≤ 1000000002 := by
  unfold vOk at h
  unfold decI
  split
  · have := decS_lenE n.natAbs
    rw [List.length_append, List.length_singleton]; omega
  · have := decS_lenE n.toNat
    omega
section
variable {P : Program} {ops : Array Oper} {Q : Exit → Act → World → Prop} {md : Region.Mode} {S : World → Prop} {k : Nat}
def wpTill (P : Program) (md : Region.Mode) (ops : Array Oper) (Q : Exit → Act → World → Prop) (S : World → Prop) (k : Nat) : Nat → Array Bool → Act → World → Prop
  | 0, ls, a, w => Region.ready md ops ls = [] ∧ Q .normal a w
  | f + 1, ls, a, w => (Region.ready md ops ls = [] → Q .normal a w) ∧ ∀ i ∈ Region.ready md ops ls,
      wpOp P ops Q i (fun a' w' => ((ls.setIfInBounds i true).getD k true = false → S w') ∧ wpTill P md ops Q S k f (ls.setIfInBounds i true) a' w') a w
theorem wpTill.any : ∀ (f : Nat) (ls : Array Bool) (a : Act) (w : World), wpTill P md ops Q S k f ls a w → wpAny P md ops Q f ls a w
  | 0, _, _, _, h => h
  | f + 1, _, _, _, h => ⟨h.1, fun i hi => wpOp_mono (fun _ _ h' => wpTill.any f _ _ _ h'.2) (h.2 i hi)⟩
def shutB (md : Region.Mode) (ops : Array Oper) (ls : Array Bool) : Bool :=
  (List.range ops.size).all fun j => !ls.getD j true || ((ops[j]?).map (·.after.all fun e => !Region.binds md e || ls.getD e.on false)).getD false
def waitsB (md : Region.Mode) (ops : Array Oper) (i : Nat) : Nat → Nat → Bool
  | 0, _ => false
  | n + 1, j => ((ops[j]?).map (·.after.any fun e => Region.binds md e && (e.on == i || waitsB md ops i n e.on))).getD false
theorem shutB_iff {ls : Array Bool} : shutB md ops ls = true ↔ ∀ j o, ops[j]? = some o → ls.getD j true = true → ∀ e ∈ o.after, Region.binds md e = true → ls.getD e.on false = true := by
  unfold shutB
  rw [List.all_eq_true]
  constructor
  · intro h j o ho hj e he hb
    have h1 := h j (List.mem_range.2 (Array.getElem?_eq_some_iff.1 ho).1)
    rw [hj, ho] at h1
    simp only [Bool.not_true, Bool.false_or, Option.map_some, Option.getD_some, Array.all_eq_true'] at h1
    have h2 := h1 e he
    rw [hb] at h2
    simpa using h2
  · intro h j hj
    rw [List.mem_range] at hj
    have ho : ops[j]? = some ops[j] := Array.getElem?_eq_getElem hj
    cases hl : ls.getD j true with
    | false => rfl
    | true =>
      rw [ho]
      simp only [Bool.not_true, Bool.false_or, Option.map_some, Option.getD_some, Array.all_eq_true']
      intro e he
      cases hb : Region.binds md e with
      | false => rfl
      | true => simpa using h j _ ho hl e he hb
theorem shutB_set {ls : Array Bool} {j : Nat} (h : shutB md ops ls = true) (hj : j ∈ Region.ready md ops ls) : shutB md ops (ls.setIfInBounds j true) = true := by
  rw [shutB_iff] at h ⊢
  intro i o ho hi e he hb
  obtain ⟨_, oj, hoj, hall⟩ := mem_ready.1 hj
  by_cases hij : j = i
  · subst hij
    rw [hoj] at ho
    injection ho with ho
    subst ho
    exact getD_set_true (hall e he hb)
  · rw [getD_set_ne true hij] at hi
    exact getD_set_true (h i o ho hi e he hb)
theorem waits_not {ls : Array Bool} {i : Nat} (h : shutB md ops ls = true) (hi : ls.getD i true = false) : ∀ (n j : Nat), waitsB md ops i n j = true → ls.getD j true = false
  | 0, _, hw => by cases hw
  | n + 1, j, hw => by
    cases hl : ls.getD j true with
    | false => rfl
    | true =>
      unfold waitsB at hw
      cases ho : ops[j]? with
      | none => rw [ho] at hw; cases hw
      | some o =>
        rw [ho] at hw
        simp only [Option.map_some, Option.getD_some, Array.any_eq_true', Bool.and_eq_true, Bool.or_eq_true, beq_iff_eq] at hw
        obtain ⟨e, he, hb, hor⟩ := hw
        have h1 := shutB_iff.1 h j o ho hl e he hb
        have h2 : ls.getD e.on true = false := by
          rcases hor with heq | hr
          · rw [heq]; exact hi
          · exact waits_not h hi n _ hr
        exfalso
        rcases Nat.lt_or_ge e.on ls.size with h' | h'
        · simp [h'] at h1 h2; rw [h2] at h1; cases h1
        · simp [h'] at h1
theorem wpTill_first {i n : Nat} {oi : Oper} {v : Value} (hi : ops[i]? = some oi) (hsel : ∀ (j : Nat) (o : Oper) cs b, ops[j]? = some o → o.op ≠ .select cs b)
    (hQ : ∀ c a w, Q (.panic c) (a.put oi.dst v) w → Q (.panic c) a w) (hw : waitsB md ops i n k = true) (hik : i ≠ k) :
    ∀ (f : Nat) (ls : Array Bool) (a : Act) (w : World), shutB md ops ls = true →
      (∀ j oj, ops[j]? = some oj → j ≠ i → ls.getD j true = false → (∀ e ∈ oj.after, Region.binds md e = true → e.on ≠ i) → oi.apart ops oj = true) →
      i ∈ Region.ready md ops ls → YieldsIf P ops S oi v a → S w →
      wpTill P md ops Q S k f (ls.setIfInBounds i true) (a.put oi.dst v) w → wpTill P md ops Q S k (f + 1) ls a w
  | 0, ls, a, w, hsh, hfree, hr, hy, hS, H => by
    refine ⟨fun h => (by rw [h] at hr; cases hr), fun j hj => ?_⟩
    by_cases hji : j = i
    · subst hji; exact hy.wpOp hi hS ⟨fun _ => hS, H⟩
    · have h1 := ready_mono hj hji
      rw [H.1] at h1
      cases h1
  | f + 1, ls, a, w, hsh, hfree, hr, hy, hS, H => by
    refine ⟨fun h => (by rw [h] at hr; cases hr), fun j hj => ?_⟩
    by_cases hji : j = i
    · subst hji; exact hy.wpOp hi hS ⟨fun _ => hS, H⟩
    · have h1 := H.2 j (ready_mono hj hji)
      obtain ⟨hjun, oj, hoj, hall⟩ := mem_ready.1 hj
      have hiun := (mem_ready.1 hr).1
      have hnot : ∀ e ∈ oj.after, Region.binds md e = true → e.on ≠ i := fun e he hb heq => by
        have h2 := hall e he hb
        rw [heq] at h2
        rcases Nat.lt_or_ge i ls.size with h' | h'
        · simp [h'] at hiun h2; rw [hiun] at h2; cases h2
        · simp [h'] at h2
      have hsh' := shutB_set hsh hj
      have hiun' : (ls.setIfInBounds j true).getD i true = false := by rw [getD_set_ne true hji]; exact hiun
      have hkun : (ls.setIfInBounds j true).getD k true = false := waits_not hsh' hiun' n k hw
      have h2 := wpOp_putIf hoj (hfree j oj hoj hji hjun hnot) (fun cs b => hsel i oi cs b hi) (fun cs b => hsel j oj cs b hoj) hQ hy h1
      refine wpOp_mono (fun a' w' h3 => ?_) h2
      have hS' : S w' := h3.2.1 (by rw [Array.setIfInBounds_comm _ _ (Ne.symm hji), getD_set_ne true hik]; exact hkun)
      refine ⟨fun _ => hS', wpTill_first hi hsel hQ hw hik f (ls.setIfInBounds j true) a' w' hsh' (fun m om hm hmi hun hno => hfree m om hm hmi ?_ hno) (ready_mono hr (Ne.symm hji)) h3.1 hS' ?_⟩
      · by_cases hjm : j = m
        · subst hjm; exact hjun
        · rw [getD_set_ne true hjm] at hun; exact hun
      · rw [Array.setIfInBounds_comm _ _ hji]
        exact h3.2.2
theorem takeT {i d : Nat} {oi : Oper} {v : Value} {f : Nat} {ls : Array Bool} {a : Act} {w : World} (hi : ops[i]? = some oi) (hd : oi.dst = some d) (hq : (Region.noSelect ops && Region.free md ops ls i && (Region.ready md ops ls).contains i && waitsB md ops i ops.size k && shutB md ops ls && i != k) = true)
    (hQ : ∀ c a w, Q (.panic c) (a.put oi.dst v) w → Q (.panic c) a w) (hy : YieldsIf P ops S oi v a) (hS : S w)
    (h : wpTill P md ops Q S k f (ls.setIfInBounds i true) { a with tmps := a.tmps.setIfInBounds d v } w) : wpTill P md ops Q S k (f + 1) ls a w := by
  simp only [Bool.and_eq_true, bne_iff_ne] at hq
  obtain ⟨⟨⟨⟨⟨h1, h2⟩, h3⟩, h4⟩, h5⟩, h6⟩ := hq
  exact wpTill_first hi (Region.noSelect_spec h1) hQ h4 h6 f ls a w h5 (Region.free_spec hi h2) (by simpa using h3) hy hS (by rw [hd]; exact h)
theorem stepT {i : Nat} {o : Oper} {f : Nat} {ls : Array Bool} {a : Act} {w : World} (hr : Region.ready md ops ls = [i]) (ho : ops[i]? = some o)
    (h : ∀ K' : Act → World → Prop, Shut (∀ a w, S w → (S w → wpTill P md ops Q S k f (ls.setIfInBounds i true) a w) → K' a w) → if Region.wanted o (yielded ops a.tmps) = true then Oper.wp P o a w K' Q else K' (a.put o.dst undef) w) : wpTill P md ops Q S k (f + 1) ls a w := by
  refine ⟨fun h0 => (by rw [hr] at h0; cases h0), fun j hj => ?_⟩
  rw [hr, List.mem_singleton] at hj
  subst hj
  exact wpOp_step ho (fun K' hK => h K' (fun a w hS hW => hK a w ⟨fun _ => hS, hW hS⟩))
theorem lastT {o : Oper} {f : Nat} {ls : Array Bool} {a : Act} {w : World} (hr : Region.ready md ops ls = [k]) (hr2 : Region.ready md ops (ls.setIfInBounds k true) = []) (ho : ops[k]? = some o) (hk : (ls.setIfInBounds k true).getD k true = true)
    (h : ∀ K' : Act → World → Prop, Shut (∀ a w, Q .normal a w → K' a w) → if Region.wanted o (yielded ops a.tmps) = true then Oper.wp P o a w K' Q else K' (a.put o.dst undef) w) : wpTill P md ops Q S k (f + 1) ls a w := by
  refine ⟨fun h0 => (by rw [hr] at h0; cases h0), fun j hj => ?_⟩
  rw [hr, List.mem_singleton] at hj
  subst hj
  refine wpOp_step ho (fun K' hK => h K' (fun a w hq => hK a w ⟨fun h0 => (by rw [hk] at h0; cases h0), ?_⟩))
  cases f with
  | zero => exact ⟨hr2, hq⟩
  | succ f => exact ⟨fun _ => hq, fun j hj => by rw [hr2] at hj; cases hj⟩
theorem beginT {id : Nat} {a : Act} {w : World} (k : Nat) (S : World → Prop) (hm : P.follows .mixedOrders = true) (hS : S w.drew) (h : S w.drew → wpTill P .any ops Q S k ops.size (Array.replicate ops.size false) a w.drew) : (Code.region id ops true).wp P Q a w :=
  wp_region_any hm (wpTill.any _ _ _ _ (h hS))
end
end Go.Proofs.YtpbemaaghbbocaaGreatDoor
