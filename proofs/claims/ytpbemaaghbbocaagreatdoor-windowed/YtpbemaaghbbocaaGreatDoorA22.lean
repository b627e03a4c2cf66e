/- Parts. -/
import Derived.Test.YtpbemaaghbbocaaGreatDoorA21
import Derived.Test.YtpbemaaghbbocaaGreatDoorA19
import Derived.Test.YtpbemaaghbbocaaGreatDoorA10
import Derived.Deep.RegionHeld3
import Derived.Deep.DrawnRows
import Derived.Deep.CutBlock
namespace Go.Proofs.YtpbemaaghbbocaaGreatDoor
open Go.RowKit LS
theorem wordV_hit : ∀ (l : List Lab) (n : List UInt8) (k : Nat) (hk : k < l.length), (∀ p ∈ l.take k, p.1 ≠ n) → l[k].1 = n → wordV l n = l[k].2
  | p :: l, n, 0, _, _, he => by rw [wordV]; exact if_pos he
  | p :: l, n, k + 1, hk, hn, he => by
    rw [wordV, if_neg (hn p (by simp))]
    exact wordV_hit l n k (by simpa using hk) (fun q hq => hn q (by rw [List.take_succ_cons]; exact List.mem_cons_of_mem _ hq)) he
theorem wordV_miss : ∀ (l : List Lab) (n : List UInt8), (∀ p ∈ l, p.1 ≠ n) → wordV l n = []
  | [], _, _ => rfl
  | p :: l, n, h => by rw [wordV, if_neg (h p (List.mem_cons_self ..))]; exact wordV_miss l n (fun q hq => h q (List.mem_cons_of_mem _ hq))
set_option maxRecDepth 100000 in
set_option maxHeartbeats 2000000 in
theorem lget_any (av : Option Addr) (n cp : Nat) (tx nm : ByteArray) (qs : List (ByteArray × ByteArray)) (w : World) (h : LabelRow w 0 (.slice av n cp) n qs) :
    Calls Tryz.prog 201 #[.agg #[.slice av n cp, .string tx], .string nm] w fun e w' => ∃ r : ByteArray, e = .returned (.string r) ∧ Hid (bl r = wordV (qs.map blP) (bl nm)) ∧ Below w.heap.size w w' := by
  have hlen : qs.length = n := by have := h.1.1; rw [flatL_length] at this; omega
  subst hlen
  have HR : Hid (LabelRow w 0 (.slice av qs.length cp) qs.length qs) := h
  have hn6 : qs.length ≤ 6001 := h.2.1
  clear h
  go_enter Tryz.func201, Tryz.ntmps201
  go_wp2
  go_loopw [10] (fun i wr => ∃ k : Nat, k ≤ qs.length ∧ i = .int .i64 k ∧ Hid (∀ q ∈ qs.take k, bl q.1 ≠ bl nm) ∧ Hid (Below w.heap.size w wr)) (fun i _ => qs.length - (intOf i).toNat)
  case atStart => exact ⟨0, Nat.zero_le _, rfl, hid (by intro q hq; simp at hq), hid ((Below.refl _ _).alloc (Nat.le_refl _) _)⟩
  case round =>
    obtain ⟨k, hk, rfl, HN, HB⟩ := hrel
    by_cases hlt : k < qs.length
    · obtain ⟨g, cpx, hg⟩ := own_some HR.out.1 (by omega)
      injection hg with hg1 _ hg2
      subst hg1 hg2
      have hrow := own_below HR.out.1 HB.out
      have c1 : wr.cell? ⟨g, k * 2, none⟩ = some (.string (qs[k]).1) := own_cell hrow _ _ (by rw [(flatL_get qs k).1, List.getElem?_eq_getElem hlt]; rfl)
      have c2 : wr.cell? ⟨g, k * 2 + 1, none⟩ = some (.string (qs[k]).2) := own_cell hrow _ _ (by rw [(flatL_get qs k).2, List.getElem?_eq_getElem hlt]; rfl)
      have hwr := HB.out.size
      clear hrow
      by_cases hq : bl (qs[k]).1 = bl nm
      · have HW : Hid (wordV (qs.map blP) (bl nm) = bl (qs[k]).2) := hid (by
          rw [wordV_hit (qs.map blP) (bl nm) k (by rw [List.length_map]; exact hlt) (fun p hp => by
            rw [← List.map_take] at hp
            obtain ⟨q, hq', rfl⟩ := List.mem_map.1 hp
            exact HN.out q hq') (by rw [List.getElem_map]; exact hq), List.getElem_map]
          rfl)
        have he : ((qs[k]).1.toList == nm.toList) = true := by rw [toList_bl, toList_bl, hq]; simp
        generalize (qs[k]).1 = x at *
        generalize (qs[k]).2 = y at *
        go_wp2
        go_ret
        exact ⟨_, rfl, hid HW.out.symm, (by repeat (first | exact Below.refl _ _ | assumption | refine Below.alloc ?_ (by first | omega | (simp; omega) | simp) _ | refine Below.setCell ?_ (by first | omega | (simp; omega) | simp) _ | refine below_drewN' ?_ _ | refine Below.drew ?_))⟩
      · have he : ((qs[k]).1.toList == nm.toList) = false := by rw [toList_bl, toList_bl]; simp [hq]
        have HN2 : Hid (∀ q ∈ qs.take (k + 1), bl q.1 ≠ bl nm) := hid (by
          intro q hq'
          rw [List.take_succ_eq_append_getElem hlt] at hq'
          rcases List.mem_append.mp hq' with h | h
          · exact HN.out q h
          · rw [List.mem_singleton] at h; subst h; exact hq)
        generalize (qs[k]).1 = x at *
        generalize (qs[k]).2 = y at *
        go_wp2
        go_roundw
        case rel => exact ⟨k + 1, by omega, by go_num, HN2, hid (HB.out.alloc hwr _)⟩
        case measure => simp [intOf]; omega
    · obtain rfl : k = qs.length := by omega
      have HW : Hid (wordV (qs.map blP) (bl nm) = []) := hid (wordV_miss _ _ (fun p hp => by
        obtain ⟨q, hq, rfl⟩ := List.mem_map.1 hp
        exact HN.out q (by rw [List.take_length]; exact hq)))
      go_wp2
      go_ret
      exact ⟨_, rfl, hid HW.out.symm, HB.out⟩
structure Srs where
  nm : ByteArray
  a : Option Addr
  n : Nat
  c : Nat
  tx : ByteArray
  qs : List (ByteArray × ByteArray)
  sa : Option Addr
  sc : Nat
  sams : List (Int × Int)
def Srs.enc (s : Srs) : List Value := [.string s.nm, .slice s.a s.n s.c, .string s.tx, .slice s.sa s.sams.length s.sc]
def Srs.ser (s : Srs) : Ser := ⟨bl s.nm, s.qs.map blP, s.sams⟩
structure SrsOk (w : World) (s : Srs) : Prop where
  lb : LbOk w s.a s.n s.c s.tx s.qs
  sam : SamV w s.sa s.sams
  tm : TmS s.sams
  len : s.sams.length ≤ 6001
  cap : s.sams.length ≤ s.sc
  ok : ∀ x ∈ s.sams, smOk x
theorem SrsOk.keepsC {w w' : World} {s : Srs} (h : SrsOk w s) (hk : KeepsC w w') : SrsOk w' s := ⟨h.lb.keepsC hk, h.sam.keepsC hk, h.tm, h.len, h.cap, h.ok⟩
theorem CondsV.keepsC {w w' : World} {v : Value} {ns : List (List UInt8 × List UInt8 × Bool)} (h : CondsV w v ns) (hk : KeepsC w w') : CondsV w' v ns := by
  obtain ⟨bs, h1, h2⟩ := h; exact ⟨bs, hk.own h1, h2⟩
theorem NamesV.keepsC {w w' : World} {v : Value} {ns : List (List UInt8)} (h : NamesV w v ns) (hk : KeepsC w w') : NamesV w' v ns := by
  obtain ⟨bs, h1, h2⟩ := h; exact ⟨bs, hk.own h1, h2⟩
theorem flatCo_get (l : List (ByteArray × ByteArray × Bool)) (j : Nat) (hj : j < l.length) : (flatCo l)[j * 3]? = some (.string l[j].1) ∧ (flatCo l)[j * 3 + 1]? = some (.bool l[j].2.2) ∧ (flatCo l)[j * 3 + 2]? = some (.string l[j].2.1) := by
  induction l generalizing j with
  | nil => simp at hj
  | cons a l ih =>
    cases j with
    | zero => exact ⟨rfl, rfl, rfl⟩
    | succ j =>
      have h := ih j (by simpa using hj)
      rw [show (j + 1) * 3 = j * 3 + 1 + 1 + 1 by omega]
      simpa [flatCo] using h
theorem ppicksV_cut (a : Nd) (s : Ser) (qs : List (ByteArray × ByteArray × Bool)) (h : qs.map condB = a.conds) (k : Nat) (hk : k < qs.length) (hf : condOk s (condB qs[k]) = false) : picksV a s = false := by
  unfold picksV
  rw [← h, show (qs.map condB).all (condOk s) = false from ?_]; rfl
  rw [List.all_eq_false]
  exact ⟨condB qs[k], List.mem_map.mpr ⟨_, List.getElem_mem hk, rfl⟩, by simp [hf]⟩
theorem ppicksV_end (a : Nd) (s : Ser) (qs : List (ByteArray × ByteArray × Bool)) (h : qs.map condB = a.conds) (hf : ∀ q ∈ qs, condOk s (condB q) = true) : picksV a s = decide (a.name = s.name) := by
  unfold picksV
  rw [← h, show (qs.map condB).all (condOk s) = true from ?_]; rfl
  rw [List.all_eq_true]
  intro c hc
  obtain ⟨q, hq, rfl⟩ := List.mem_map.mp hc
  exact hf q hq
theorem own_len {w : World} {base : Nat} {e : TypeId} {size : Nat} {v : Value} {n : Nat} {xs : List Value} (h : w.ownsRow base e size v n xs) : n ≤ 9223372036854775807 := by
  rcases h.2 with ⟨_, h0⟩ | ⟨g, cap, cur, hv, hg, hh, h1, h2, r⟩
  · omega
  · unfold maxLen at h2; omega
theorem bl_beqG (a b : ByteArray) : (a.toList == b.toList) = decide (bl a = bl b) := by
  rw [toList_bl, toList_bl, Bool.eq_iff_iff, beq_iff_eq, decide_eq_true_iff]
set_option maxRecDepth 100000 in
set_option maxHeartbeats 4000000 in
theorem ppicks_any (nm : ByteArray) (la : Option Addr) (ln lc : Nat) (nd : Nd) (s : Srs) (w : World) (hnm : bl nm = nd.name) (hc : CondsV w (.slice la ln lc) nd.conds) (hl : LbOk w s.a s.n s.c s.tx s.qs) :
    Calls Tryz.prog 176 #[.agg #[.string nm, .slice la ln lc], .agg #[.string s.nm, .slice s.a s.n s.c, .string s.tx, .slice s.sa s.sams.length s.sc]] w fun e w' => e = .returned (.bool (picksV nd s.ser)) ∧ Below w.heap.size w w' := by
  obtain ⟨cs, hown, hqs⟩ := hc
  have hcn := own_len hown
  obtain ⟨av, cp, hv⟩ := own_shape hown
  injection hv with hv1 hv2 hv3
  subst hv2
  have HO : Hid (w.ownsRow 0 247 3 (.slice la cs.length lc) cs.length (flatCo cs)) := hown
  have HNM : Hid (bl nm = nd.name ∧ cs.map condB = nd.conds) := ⟨hnm, hqs⟩
  obtain ⟨snm, a, n, c, tx, qs, sa, sc, sams⟩ := s
  have HL : Hid (LabelRow w 0 (.slice a n c) n qs) := hl.row
  clear hown hv1 hv3 hqs hnm hl
  obtain ⟨S, hSv⟩ : ∃ S, S = Srs.ser ⟨snm, a, n, c, tx, qs, sa, sc, sams⟩ := ⟨_, rfl⟩
  have HSV : Hid (S.name = bl snm ∧ S.labs = qs.map blP) := hid (by rw [hSv]; exact ⟨rfl, rfl⟩)
  rw [← hSv]
  clear hSv
  simp only
  have HE : Hid ((snm.toList == nm.toList) = decide (nd.name = S.name)) := hid (by
    rw [bl_beqG, HNM.out.1, HSV.out.1, decide_eq_decide]; exact ⟨fun h => h.symm, fun h => h.symm⟩)
  by_cases hne : nd.name ≠ S.name
  · have he := HE.out
    rw [decide_eq_false hne] at he
    have HF : Hid (picksV nd S = false) := hid (by unfold picksV; rw [decide_eq_false hne, Bool.and_false])
    go_enter Tryz.func176, Tryz.ntmps176
    go_wp2
    go_ret
    exact ⟨by rw [HF.out]; rfl, (by repeat (first | exact Below.refl _ _ | assumption | refine Below.alloc ?_ (by first | omega | (simp; omega) | simp) _ | refine Below.setCell ?_ (by first | omega | (simp; omega) | simp) _ | refine below_drewN' ?_ _ | refine Below.drew ?_))⟩
  replace hne := Classical.not_not.1 hne
  have he := HE.out
  rw [decide_eq_true hne] at he
  have HNE : Hid (nd.name = S.name) := hne
  clear hne
  go_enter Tryz.func176, Tryz.ntmps176
  go_wp2
  go_loopg [16] cs.length (fun gk v16 wr => ∃ k : Nat, k ≤ cs.length ∧ gk = cs.length - k ∧ v16 = .int .i64 k ∧ Hid (∀ q ∈ cs.take k, condOk S (condB q) = true) ∧ Hid (Below w.heap.size w wr) ∧ Hid (BAt wr (w.heap.size + 1) [.string snm, .slice a n c, .string tx, .slice sa sams.length sc] 199))
  case atStart => exact ⟨0, Nat.zero_le _, rfl, rfl, hid (by intro q hq; simp at hq), hid (((Below.refl _ _).alloc (Nat.le_refl _) _).alloc (by simp) _), hid (by have := Go.Deep.blk_alloc_new (w.alloc (.cells #[.string nm, .slice la cs.length lc] 179)) (.cells #[.string snm, .slice a n c, .string tx, .slice sa sams.length sc] 199); rw [Go.Deep.nblk_alloc] at this; exact this)⟩
  case round =>
    obtain ⟨k, hk, hgk, rfl, HR, HB, HS⟩ := hrel
    by_cases hlt : k < cs.length
    · have hg : ∃ g, la = some ⟨g, 0, none⟩ := by
        obtain ⟨g, cp', h⟩ := own_some HO.out (by omega)
        injection h with h1; exact ⟨g, h1⟩
      obtain ⟨g, rfl⟩ := hg
      have HOr := hid (own_below HO.out HB.out)
      obtain ⟨f1, f2, f3⟩ := flatCo_get cs k hlt
      have d1 := own_cell HOr.out _ _ f1
      have d2 := own_cell HOr.out _ _ f2
      have d3 := own_cell HOr.out _ _ f3
      have HK := hid (fun h => ppicksV_cut nd S cs HNM.out.2 k hlt h)
      have HN : Hid (condOk S (condB cs[k]) = true → ∀ q ∈ cs.take (k + 1), condOk S (condB q) = true) := hid (by
          intro hh q hq'
          rw [List.take_succ_eq_append_getElem hlt] at hq'
          rcases List.mem_append.mp hq' with h | h
          · exact HR.out q h
          · rw [List.mem_singleton] at h; subst h; exact hh)
      generalize cs[k] = q at *
      obtain ⟨x, y, v⟩ := q
      simp only at d1 d2 d3
      clear f1 f2 f3
      have hkz : (k : Int) < (cs.length : Int) := by omega
      go_upto_region 6 with fail
      refine wp_gen fun W hW => ?_
      have hbW : Below wr.heap.size wr W := by rw [hW]; exact (Below.refl _ _).alloc (Nat.le_refl _) _
      have HC : Hid (BAt W wr.heap.size [.string x, .bool v, .string y] 247) := hid (by rw [hW]; exact Go.Deep.blk_alloc_new _ _)
      have HBW : Hid (Below w.heap.size w W) := HB.out.trans (hbW.mono HB.out.size)
      have HSW := hid (HS.out.below hbW)
      have hz1 := HS.out.lt
      have hz2 := HC.out.lt
      have HLW : Hid (LabelRow W 0 (.slice a n c) n qs) := HL.out.below HBW.out
      clear hW hbW HB HS d1 d2 d3 HOr
      have b1 := HSW.out.cell 1
      have b2 := HSW.out.cell 2
      have c0 := HC.out.cell 0
      have c1 := HC.out.cell 1
      have c2 := HC.out.cell 2
      simp only [List.getElem?_cons_zero, List.getElem?_cons_succ] at b1 b2 c0 c1 c2
      go_region_held3 (fun w' => w'.cell? ⟨w.heap.size + 1, 1, none⟩ = some (.slice a n c) ∧ w'.cell? ⟨w.heap.size + 1, 2, none⟩ = some (.string tx) ∧ w'.cell? ⟨wr.heap.size, 0, none⟩ = some (.string x) ∧ w'.cell? ⟨wr.heap.size, 2, none⟩ = some (.string y)) (first | exact ⟨b51, b52, c50, c52⟩ | exact ⟨b1, b2, c0, c2⟩ | go_keep) (first
        | (go_at_call 201
           refine (lget_any _ _ _ tx x qs _ (by exact HLW.out.below ⟨rfl, rfl, rfl, Nat.le_refl _, fun _ _ => rfl⟩)).mono ?_
           rintro e w5 ⟨r, rfl, HWd, hb5⟩
           have HB5 : Hid (Below W.heap.size W w5) := hid (below_undrew hb5)
           have HC5 := hid (HC.out.below HB5.out)
           have HS5 := hid (HSW.out.below HB5.out)
           have c50 := HC5.out.cell 0
           have c51 := HC5.out.cell 1
           have c52 := HC5.out.cell 2
           have b51 := HS5.out.cell 1
           have b52 := HS5.out.cell 2
           simp only [List.getElem?_cons_zero, List.getElem?_cons_succ] at c50 c51 c52 b51 b52
           clear hb5))
      have HQ : Hid (condOk S (condB (x, y, v)) = !((r.toList == y.toList) == v)) := hid (by
        rw [bl_beqG, HWd.out, ← HSV.out.2]; rfl)
      have HB6 : Hid (Below w.heap.size w w5) := HBW.out.trans (HB5.out.mono HBW.out.size)
      generalize (r.toList == y.toList) = b at *
      by_cases hbv : b = v
      · have HF := hid (HK.out (by rw [HQ.out, hbv]; simp))
        have hbv2 : (b == v) = true := by rw [hbv]; simp
        go_wp2
        go_ret
        exact ⟨by rw [HF.out]; rfl, HB6.out⟩
      · have HF := hid (HN.out (by rw [HQ.out]; simp [hbv]))
        have hbv2 : (b == v) = false := by simp [hbv]
        go_wp2
        go_roundg (cs.length - (k + 1))
        case measure => omega
        case rel => exact ⟨k + 1, by omega, rfl, by go_num, HF, HB6, HS5⟩
    · obtain rfl : k = cs.length := by omega
      have HF := hid (ppicksV_end nd S cs HNM.out.2 (by have := HR.out; rwa [List.take_length] at this))
      go_wp2
      go_ret
      exact ⟨by rw [HF.out, decide_eq_true HNE.out]; rfl, HB.out⟩
structure Str where
  a : Option Addr
  n : Nat
  c : Nat
  tx : ByteArray
  qs : List (ByteArray × ByteArray)
  sa : Option Addr
  sc : Nat
  sams : List (Int × Int)
def Str.enc (s : Str) : List Value := [.slice s.a s.n s.c, .string s.tx, .slice s.sa s.sams.length s.sc]
def Str.pr (s : Str) : List Lab × List (Int × Int) := (s.qs.map blP, s.sams)
structure StrOk (w : World) (s : Str) : Prop where
  lb : LbOk w s.a s.n s.c s.tx s.qs
  sam : SamV w s.sa s.sams
  ne : s.sams ≠ []
  len : s.sams.length ≤ 6001
  ok : ∀ x ∈ s.sams, smOk x
theorem StrOk.kb {t : TypeId} {w w' : World} {s : Str} (h : StrOk w s) (hk : KeepsB t w w') (h1 : 320 ≠ t) (h2 : 313 ≠ t) : StrOk w' s := ⟨h.lb.kb hk h1, h.sam.kb hk h2, h.ne, h.len, h.ok⟩
theorem StrOk.keepsC {w w' : World} {s : Str} (h : StrOk w s) (hk : KeepsC w w') : StrOk w' s := ⟨h.lb.keepsC hk, h.sam.keepsC hk, h.ne, h.len, h.ok⟩
def encR (l : List Str) : List Value := (l.map Str.enc).flatten
theorem encR_append (l m : List Str) : encR (l ++ m) = encR l ++ encR m := by unfold encR; rw [List.map_append, List.flatten_append]
theorem encR_get (l : List Str) (j : Nat) (hj : j < l.length) : (encR l)[j * 3]? = some (.slice l[j].a l[j].n l[j].c) ∧ (encR l)[j * 3 + 1]? = some (.string l[j].tx) ∧ (encR l)[j * 3 + 2]? = some (.slice l[j].sa l[j].sams.length l[j].sc) := by
  induction l generalizing j with
  | nil => simp at hj
  | cons a l ih =>
    have e : encR (a :: l) = .slice a.a a.n a.c :: .string a.tx :: .slice a.sa a.sams.length a.sc :: encR l := rfl
    cases j with
    | zero => rw [e]; exact ⟨rfl, rfl, rfl⟩
    | succ j =>
      have h := ih j (by simpa using hj)
      rw [e, show (j + 1) * 3 = j * 3 + 1 + 1 + 1 by omega]
      simpa using h
structure RngV (w : World) (v : Value) (rs : List Str) : Prop where
  row : w.ownsRow 0 311 3 v rs.length (encR rs)
  ok : ∀ s ∈ rs, StrOk w s
theorem RngV.keepsC {w w' : World} {v : Value} {rs : List Str} (h : RngV w v rs) (hk : KeepsC w w') : RngV w' v rs := ⟨hk.own h.row, fun s hs => (h.ok s hs).keepsC hk⟩
theorem RngV.below {w w' : World} {v : Value} {rs : List Str} (h : RngV w v rs) (hb : Below w.heap.size w w') : RngV w' v rs := h.keepsC (KeepsC.below hb)
def rangeV (st : List Ser) (a : Nd) (n t : Int) : List (List Lab × List (Int × Int)) := (st.filter fun s => picksV a s && !(withinV s.sams n t).isEmpty).map fun s => (s.labs, withinV s.sams n t)
theorem rangeV_snoc (st : List Ser) (s : Ser) (a : Nd) (n t : Int) : rangeV (st ++ [s]) a n t = if picksV a s && !(withinV s.sams n t).isEmpty then rangeV st a n t ++ [(s.labs, withinV s.sams n t)] else rangeV st a n t := by
  unfold rangeV
  rw [List.filter_append, List.map_append]
  split
  · rename_i h; rw [List.filter_cons_of_pos (by simpa using h)]; rfl
  · rename_i h; rw [List.filter_cons_of_neg (by simpa using h)]; simp
theorem rangeV_len (st : List Ser) (a : Nd) (n t : Int) : (rangeV st a n t).length ≤ st.length := by
  unfold rangeV; rw [List.length_map]; exact List.length_filter_le _ _
theorem picked_range (st : List Ser) (a : Nd) (op : Option Nat) (n t : Int) : pickedV st a op n t = (rangeV st a n t).map fun p => (p.1, oneV op p.2) := by
  unfold pickedV rangeV; rw [List.map_map]; rfl
def encS (l : List Srs) : List Value := (l.map Srs.enc).flatten
theorem encS_get (l : List Srs) (j : Nat) (hj : j < l.length) : (encS l)[j * 4]? = some (.string l[j].nm) ∧ (encS l)[j * 4 + 1]? = some (.slice l[j].a l[j].n l[j].c) ∧ (encS l)[j * 4 + 2]? = some (.string l[j].tx) ∧ (encS l)[j * 4 + 3]? = some (.slice l[j].sa l[j].sams.length l[j].sc) := by
  induction l generalizing j with
  | nil => simp at hj
  | cons a l ih =>
    have e : encS (a :: l) = .string a.nm :: .slice a.a a.n a.c :: .string a.tx :: .slice a.sa a.sams.length a.sc :: encS l := rfl
    cases j with
    | zero => rw [e]; exact ⟨rfl, rfl, rfl, rfl⟩
    | succ j =>
      have h := ih j (by simpa using hj)
      rw [e, show (j + 1) * 4 = j * 4 + 1 + 1 + 1 + 1 by omega]
      simpa using h
structure StoP (w : World) (v : Value) (ss : List Srs) : Prop where
  row : w.ownsRow 0 199 4 v ss.length (encS ss)
  ok : ∀ s ∈ ss, SrsOk w s
  len : ss.length ≤ 30
theorem StoP.keepsC {w w' : World} {v : Value} {ss : List Srs} (h : StoP w v ss) (hk : KeepsC w w') : StoP w' v ss := ⟨hk.own h.row, fun s hs => (h.ok s hs).keepsC hk, h.len⟩
theorem StoP.below {w w' : World} {v : Value} {ss : List Srs} (h : StoP w v ss) (hb : Below w.heap.size w w') : StoP w' v ss := h.keepsC (KeepsC.below hb)
theorem Tryz.infoStretch : (Tryz.prog.info? 311).map (fun i => (i.zero, i.size, i.bytes)) = some (some (.agg #[.slice none 0 0, .string ByteArray.empty, .slice none 0 0]), 3, 64) := by kernel_rfl
set_option maxRecDepth 100000 in
set_option maxHeartbeats 4000000 in
theorem prange_any (sv : Value) (ss : List Srs) (nm : ByteArray) (la : Option Addr) (ln lc : Nat) (nd : Nd) (n t : Int) (w : World) (hst : StoP w sv ss) (hnm : bl nm = nd.name) (hc : CondsV w (.slice la ln lc) nd.conds) (hn0 : 0 ≤ n) (hn1 : n ≤ 1000) (ht0 : -1000000 ≤ t) (ht1 : t ≤ 1000000) :
    Calls Tryz.prog 134 #[sv, .agg #[.string nm, .slice la ln lc], .int .i64 n, .int .i64 t] w fun e w' => ∃ v rs, e = .returned v ∧ Hid (RngV w' v rs ∧ rs.map Str.pr = rangeV (ss.map Srs.ser) nd n t) ∧ Below w.heap.size w w' := by
  obtain ⟨i0, hi, hz0, hz1, hz2⟩ := info_parts Tryz.infoStretch
  obtain ⟨sa, scp, rfl⟩ := own_shape hst.row
  have HST : Hid (StoP w (.slice sa ss.length scp) ss) := hst
  have hss : ss.length ≤ 30 := hst.len
  have HNM : Hid (bl nm = nd.name) := hnm
  have HC : Hid (CondsV w (.slice la ln lc) nd.conds) := hc
  clear hst hnm hc
  go_enter Tryz.func134, Tryz.ntmps134
  go_wp2
  go_loopw [9, 15] (fun v i wr => ∃ (k : Nat) (rs : List Str), k ≤ ss.length ∧ i = .int .i64 k ∧ rs.length ≤ k ∧ wr.ownsRow (w.heap.size + 1) 311 3 v rs.length (encR rs) ∧ Hid ((∀ s ∈ rs, StrOk wr s) ∧ rs.map Str.pr = rangeV ((ss.take k).map Srs.ser) nd n t) ∧ Hid (BAt wr w.heap.size [.string nm, .slice la ln lc] 179) ∧ Hid (Below w.heap.size w wr))
    (fun _ i _ => ss.length - (intOf i).toNat)
  case atStart => exact ⟨0, [], Nat.zero_le _, rfl, Nat.zero_le _, World.ownsRow_nil _ _ _ _, hid ⟨(by intro s hs; cases hs), by simp [rangeV]⟩, hid (Go.Deep.blk_alloc_new w _), hid ((Below.refl _ _).alloc (Nat.le_refl _) _)⟩
  case round =>
    obtain ⟨k, rs, hk, rfl, hrk, hown, HR, HBX, HB⟩ := hrel
    by_cases hlt : k < ss.length
    · have hg : ∃ g, sa = some ⟨g, 0, none⟩ := by
        obtain ⟨g, cp', h⟩ := own_some HST.out.row (by omega)
        injection h with h1; exact ⟨g, h1⟩
      obtain ⟨g, rfl⟩ := hg
      have HSr := hid (HST.out.below HB.out)
      obtain ⟨f1, f2, f3, f4⟩ := encS_get ss k hlt
      have d1 := own_cell HSr.out.row _ _ f1
      have d2 := own_cell HSr.out.row _ _ f2
      have d3 := own_cell HSr.out.row _ _ f3
      have d4 := own_cell HSr.out.row _ _ f4
      have HSO : Hid (SrsOk wr ss[k]) := hid (HSr.out.ok _ (List.getElem_mem hlt))
      have HNX : Hid (rangeV ((ss.take (k + 1)).map Srs.ser) nd n t = if picksV nd (ss[k]).ser && !(withinV (ss[k]).sams n t).isEmpty then rangeV ((ss.take k).map Srs.ser) nd n t ++ [((ss[k]).qs.map blP, withinV (ss[k]).sams n t)] else rangeV ((ss.take k).map Srs.ser) nd n t) := hid (by
        rw [List.take_succ_eq_append_getElem hlt, List.map_append]; exact rangeV_snoc _ _ _ _ _)
      generalize ss[k] = s at *
      clear f1 f2 f3 f4 HSr
      have hkz : (k : Int) < (ss.length : Int) := by omega
      have x0 := HBX.out.cell 0
      have x1 := HBX.out.cell 1
      simp only [List.getElem?_cons_zero, List.getElem?_cons_succ] at x0 x1
      have hwb := HBX.out.lt
      go_wp2_with fail
      refine calls_gen fun W hW => ?_
      have hbW : Below wr.heap.size wr W := by rw [hW]; exact (Below.refl _ _).alloc (Nat.le_refl _) _
      have HBW : Hid (Below w.heap.size w W) := HB.out.trans (hbW.mono HB.out.size)
      have HSX : Hid (BAt W wr.heap.size [.string s.nm, .slice s.a s.n s.c, .string s.tx, .slice s.sa s.sams.length s.sc] 199) := hid (by rw [hW]; exact Go.Deep.blk_alloc_new _ _)
      have HBXW := hid (HBX.out.below hbW)
      have hownW := own_below hown hbW
      have HRW : Hid ((∀ s ∈ rs, StrOk W s) ∧ rs.map Str.pr = rangeV ((ss.take k).map Srs.ser) nd n t) := hid ⟨fun s hs => (HR.out.1 s hs).keepsC (KeepsC.below hbW), HR.out.2⟩
      have HSOW := hid (HSO.out.keepsC (KeepsC.below hbW))
      clear hW hbW hown HR HBX x0 x1 d1 d2 d3 d4 HSO HB
      refine (ppicks_any nm la ln lc nd s _ HNM.out (HC.out.below HBW.out) HSOW.out.lb).mono ?_
      rintro e w1 ⟨rfl, hb1⟩
      have HB1 : Hid (Below w.heap.size w w1) := HBW.out.trans (hb1.mono HBW.out.size)
      have HSX1 := hid (HSX.out.below hb1)
      have HBX1 := hid (HBXW.out.below hb1)
      have hown1 := own_below hownW hb1
      have HR1 : Hid ((∀ s ∈ rs, StrOk w1 s) ∧ rs.map Str.pr = rangeV ((ss.take k).map Srs.ser) nd n t) := hid ⟨fun s hs => (HRW.out.1 s hs).keepsC (KeepsC.below hb1), HRW.out.2⟩
      have HSO1 := hid (HSOW.out.keepsC (KeepsC.below hb1))
      clear hb1 HBW HSX HBXW hownW HRW HSOW
      cases hp : picksV nd s.ser with
      | false =>
        have HF : Hid ((∀ s ∈ rs, StrOk w1 s) ∧ rs.map Str.pr = rangeV ((ss.take (k + 1)).map Srs.ser) nd n t) := hid ⟨HR1.out.1, by rw [HNX.out, hp]; exact HR1.out.2⟩
        clear hp
        go_wp2
        go_roundw
        case rel => exact ⟨k + 1, rs, by omega, by go_num, by omega, hown1, HF, HBX1, HB1⟩
        case measure => simp [intOf]; omega
      | true =>
        have HP : Hid (picksV nd s.ser = true) := hp
        clear hp
        have x0 := HSX1.out.cell 0
        have x1 := HSX1.out.cell 1
        have x2 := HSX1.out.cell 2
        have x3 := HSX1.out.cell 3
        simp only [List.getElem?_cons_zero, List.getElem?_cons_succ] at x0 x1 x2 x3
        go_wp2_with fail
        refine (pwithin_any s.sc s.sa s.sams n t w1 HSO1.out.tm HSO1.out.len HSO1.out.cap hn0 hn1 ht0 ht1 HSO1.out.sam).mono ?_
        rintro e w2 ⟨av', cp', rfl, HSV, hb2⟩
        have HB2 : Hid (Below w.heap.size w w2) := HB1.out.trans (hb2.mono HB1.out.size)
        have HSX2 := hid (HSX1.out.below hb2)
        have HBX2 := hid (HBX1.out.below hb2)
        have hown2 := own_below hown1 hb2
        have HR2 : Hid ((∀ s ∈ rs, StrOk w2 s) ∧ rs.map Str.pr = rangeV ((ss.take k).map Srs.ser) nd n t) := hid ⟨fun s hs => (HR1.out.1 s hs).keepsC (KeepsC.below hb2), HR1.out.2⟩
        have HSO2 := hid (HSO1.out.keepsC (KeepsC.below hb2))
        clear hb2 HB1 HSX1 HBX1 hown1 HR1 HSO1 x0 x1 x2 x3
        obtain ⟨wl, hwl⟩ : ∃ wl, withinV s.sams n t = wl := ⟨_, rfl⟩
        rw [hwl] at HSV HNX ⊢
        by_cases he : wl = []
        · have HF : Hid ((∀ s ∈ rs, StrOk w2 s) ∧ rs.map Str.pr = rangeV ((ss.take (k + 1)).map Srs.ser) nd n t) := hid ⟨HR2.out.1, by rw [HNX.out, he]; simpa using HR2.out.2⟩
          subst he
          go_wp2
          go_roundw
          case rel => exact ⟨k + 1, rs, by omega, by go_num, by omega, hown2, HF, HBX2, HB2⟩
          case measure => simp [intOf]; omega
        · have hwlen : 0 < wl.length := List.length_pos_iff.2 he
          have HF0 : Hid (rangeV ((ss.take (k + 1)).map Srs.ser) nd n t = rangeV ((ss.take k).map Srs.ser) nd n t ++ [(s.qs.map blP, wl)]) := hid (by
            rw [HNX.out, HP.out, if_pos]; simpa using he)
          have HNE : Hid (StrOk w2 ⟨s.a, s.n, s.c, s.tx, s.qs, av', cp', wl⟩) := hid ⟨HSO2.out.lb, HSV.out, he, by
            have : wl.length ≤ s.sams.length := by rw [← hwl]; exact List.length_filter_le _ _
            have := HSO2.out.len
            show wl.length ≤ 6001
            omega, fun x hx => HSO2.out.ok x (by rw [← hwl] at hx; exact (List.mem_filter.1 hx).1)⟩
          have hwz : (0 : Int) < (wl.length : Int) := by omega
          have x0 := HSX2.out.cell 0
          have x1 := HSX2.out.cell 1
          have x2 := HSX2.out.cell 2
          have x3 := HSX2.out.cell 3
          simp only [List.getElem?_cons_zero, List.getElem?_cons_succ] at x0 x1 x2 x3
          have hw2 := HB2.out.size
          have hw3 := HBX2.out.lt
          clear hwl he HNX HP HSV
          go_wp2_with (at_builtin; refine wpList_append_own _ rfl (.tmp 31) (.tmp 36) 270 rfl (w.heap.size + 1) 311 i0 (.agg #[.slice none 0 0, .string ByteArray.empty, .slice none 0 0]) 3 64 Tryz.underlying270 hi hz0 hz1 hz2 rfl (by decide) _ _ _ rfl (hown2.alloc _) ⟨w2.heap.size, 0, none⟩ 1 1 [.slice s.a s.n s.c, .string s.tx, .slice av' wl.length cp'] rfl rfl ?c1 ?c2 ?c3 ?c4 ?c5 ?_)
          case c1 => exact cells_three (by simp) (by simp) (by simp)
          case c2 => intro u hu; simp at hu; rcases hu with rfl | rfl | rfl <;> rfl
          case c3 => unfold maxLen; omega
          case c4 => omega
          case c5 => simp; omega
          intro v' w3 hown3 hgrow _
          have hb3 : Below w.heap.size w w3 := (HB2.out.alloc (by omega) _).grown hgrow (by simp; omega) (fun q hq => by have := (hown2.lt q hq).1; omega)
          have hkb : ∀ o, KeepsB 311 w2 (w2.alloc o) := fun o => KeepsB.below ((Below.refl _ _).alloc (Nat.le_refl _) _) _
          have hkb3 := (hkb _).trans (KeepsB.grown hgrow (hown2.alloc _))
          have hown4 : w3.ownsRow (w.heap.size + 1) 311 3 v' (rs ++ [(⟨s.a, s.n, s.c, s.tx, s.qs, av', cp', wl⟩ : Str)]).length (encR (rs ++ [(⟨s.a, s.n, s.c, s.tx, s.qs, av', cp', wl⟩ : Str)])) := by
            rw [encR_append, List.length_append]; exact hown3
          have HF : Hid ((∀ z ∈ rs ++ [(⟨s.a, s.n, s.c, s.tx, s.qs, av', cp', wl⟩ : Str)], StrOk w3 z) ∧ (rs ++ [(⟨s.a, s.n, s.c, s.tx, s.qs, av', cp', wl⟩ : Str)]).map Str.pr = rangeV ((ss.take (k + 1)).map Srs.ser) nd n t) := hid ⟨fun z hz => by
            rcases List.mem_append.1 hz with hz | hz
            · exact (HR2.out.1 z hz).kb hkb3 (by decide) (by decide)
            · rw [List.mem_singleton] at hz; subst hz; exact HNE.out.kb hkb3 (by decide) (by decide), by rw [HF0.out, List.map_append, HR2.out.2]; rfl⟩
          have HBX3 : Hid (BAt w3 w.heap.size [.string nm, .slice la ln lc] 179) := hid (hkb3 _ _ _ _ (by decide) HBX2.out)
          clear hown2 hgrow hown3 hkb hkb3 x0 x1 x2 x3
          have HB3 : Hid _ := hid hb3
          clear hb3
          go_wp2
          go_roundw
          case rel => exact ⟨k + 1, _, by omega, by go_num, by simp; omega, hown4, HF, HBX3, HB3⟩
          case measure => simp [intOf]; omega
    · obtain rfl : k = ss.length := by omega
      have HF : Hid ((∀ s ∈ rs, StrOk wr s) ∧ rs.map Str.pr = rangeV (ss.map Srs.ser) nd n t) := hid ⟨HR.out.1, by have := HR.out.2; rwa [List.take_length] at this⟩
      go_wp2
      go_ret
      exact ⟨_, rs, rfl, hid ⟨⟨hown.mono (Nat.zero_le _), HF.out.1⟩, HF.out.2⟩, HB.out⟩
end Go.Proofs.YtpbemaaghbbocaaGreatDoor
