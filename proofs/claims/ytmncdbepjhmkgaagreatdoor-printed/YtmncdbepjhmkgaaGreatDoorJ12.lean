/- Parts of the proof, joined: QInner, QInner2 -/
import Derived.Test.YtmncdbepjhmkgaaGreatDoorJ11
/- What the document's reader does inside a factor. -/
namespace Go.Proofs.YtmncdbepjhmkgaaGreatDoor
open Go.RowKit LS

theorem St.tok {w : World} {b : Nat} {pv : Value} {s : ByteArray} {deep : Nat} {ts : List Tok} (h : St w b pv s deep (.ok ((), ts))) : ∃ q : QV, QAt w b q ∧ tokOf q = hd ts ∧ q.tx.size ≤ s.size + 2 ∧ q.e = 0 ∧ q.deep = deep ∧ ts.tail.length + 1 = ts.length ∧ ((hd ts).kind = 1 → (number 1000000000 (hd ts).txt).isSome = true) := by
  obtain ⟨⟨q, h1, h2, h3, h4, h5, h6, h7⟩, _⟩ := h
  have := Toks.txt_le (l := bl s) (t := tokOf q) (at_ := q.at_) (ts := ts) h7
  have e : (tokOf q).txt = bl q.tx := rfl
  rw [e, bl_length, bl_length] at this
  have hn := Toks.num (l := bl s) (t := tokOf q) (at_ := q.at_) (ts := ts) h7
  rw [← show LS.hd ts = tokOf q from h7.hd] at hn
  exact ⟨q, h1, h7.hd.symm, this, h5, h4, h7.pos.symm, hn⟩
theorem leaf_res {w w2 w3 : World} {b : Nat} {pv pv3 : Value} {s : ByteArray} {deep n : Nat} {xs : List Value} {M : Nat} {R : Out Tr} {r2 : Out Unit} {p : PV} (hk0 : Kept b pv w pv w2) (h2 : St w2 b pv s deep r2) (o2 : w2.ownsRow 0 80 8 pv n xs)
    (h3 : St w3 b pv3 s deep r2) (o3 : w3.ownsRow 0 80 8 pv3 (n + 1) (xs ++ p.cells)) (k3 : Kept b pv w2 pv3 w3) (hB : Bud M (n + 1) R) (hR : unitP R = r2) (hp : ∀ t z, R = .ok (t, z) → ∃ nd, t = leafT nd ∧ partIs w2 nd p ∧ p.a = 0 ∧ p.b = 0) : PartRes w b pv s deep xs M R n w3 := by
  refine ⟨n + 1, pv3, p.cells, by rw [hR]; exact h3, o3, hk0.trans k3, hB, ?_⟩
  intro t z e
  obtain ⟨nd, rfl, hnd, ha, hb⟩ := hp t z e
  exact ⟨n, rfl, rep_new h2 o2 k3 p nd .nil .nil 0 0 hnd ha hb (Nat.zero_le _) (Nat.zero_le _) trivial trivial, rfl⟩
theorem node_res {w w6 w8 : World} {b : Nat} {pv pv2 pv8 : Value} {s : ByteArray} {deep n2 : Nat} {xs ys : List Value} {M : Nat} {R1 R : Out Tr} {i : Int} {p : PV} {nd : Nd} (h1 : St w6 b pv2 s deep (unitP R1)) (o1 : w6.ownsRow 0 80 8 pv2 n2 (xs ++ ys)) (k1 : Kept b pv w pv2 w6)
    (hB : Bud M (n2 + 1) R1) (hr : ∀ t z, R1 = .ok (t, z) → ∃ k : Nat, i = k ∧ Rep w6 (xs ++ ys) t k ∧ k + 1 = n2) (h3 : St w8 b pv8 s deep (unitP R1)) (o3 : w8.ownsRow 0 80 8 pv8 (n2 + 1) ((xs ++ ys) ++ p.cells)) (k3 : Kept b pv2 w6 pv8 w8)
    (hR : R = bnd R1 fun a r => .ok (.node 0 0 nd a .nil, r)) (hp : partIs w6 nd p) (ha : p.a = i) (hb : p.b = 0) : PartRes w b pv s deep xs M R n2 w8 := by
  have hU : unitP R = unitP R1 := by
    rw [hR]
    cases R1 with
    | error e => rfl
    | ok x => rfl
  refine ⟨n2 + 1, pv8, ys ++ p.cells, by rw [hU]; exact h3, by rw [← List.append_assoc]; exact o3, k1.trans k3, Bud.of_unit (by rw [hU]; exact Bud.unit hB), ?_⟩
  intro t z e
  rw [hR] at e
  obtain ⟨a, r, e1, e2⟩ := bnd_ok e
  injection e2 with e2
  injection e2 with e2 e3
  subst e2; subst e3
  obtain ⟨k, q1, q2, q3⟩ := hr a r e1
  refine ⟨n2, rfl, ?_, rfl⟩
  rw [← List.append_assoc]
  exact rep_new h1 o1 k3 p nd a .nil k 0 hp (by rw [ha, q1]) hb (by omega) (Nat.zero_le _) q2 trivial
theorem tok_k {q : QV} {t : Tok} (h : tokOf q = t) : q.k = t.kind ∧ bl q.tx = t.txt := by subst h; exact ⟨rfl, rfl⟩

set_option maxHeartbeats 2000000 in
theorem inner_num {w : World} {b : Nat} {pv : Value} {s : ByteArray} {deep : Nat} {ts : List Tok} (h : St w b pv s deep (.ok ((), ts))) (hs : s.size ≤ 5000) (mi op : Bool) (hk : (hd ts).kind = 1) (rec : Nat → List Tok → Nat → Out Tr)
    {n : Nat} {xs : List Value} {M : Nat} (hown : w.ownsRow 0 80 8 pv n xs) (hM : M ≤ 6000) (hB : n + ts.length ≤ M) :
    Calls Tryz.prog 107 #[.pointer (some ⟨b, 0, none⟩), .bool mi, .bool op] w fun e w' => ∃ i : Int, e = .returned (.int .i64 i) ∧ PartRes w b pv s deep xs M (innerP rec ts deep) i w' := by
  obtain ⟨q, hq, hqt, hqs, _, _, htl, hnum⟩ := h.tok
  obtain ⟨c0, c1, c2, c3, c4, c5, c6, c7, c8⟩ := hq.all
  have hk1 : ((q.k : Int) == 1) = true := by rw [(tok_k hqt).1, hk]; rfl
  have HT : Hid (bl q.tx = (hd ts).txt) := (tok_k hqt).2
  have HI : Hid (innerP rec ts deep = .ok (leafT ⟨0, 0, numI 1000000000 (hd ts).txt, [], [], []⟩, ts.tail)) := hid (by
    unfold innerP; rw [if_pos hk]
    obtain ⟨v, hv⟩ := Option.isSome_iff_exists.1 (hnum hk)
    rw [numI_some hv]; unfold numV; rw [hv]; rfl)
  have H : Hid (St w b pv s deep (.ok ((), ts))) := h
  have HO : Hid (w.ownsRow 0 80 8 pv n xs) := hown
  have hq6 : q.tx.size ≤ 6000 := by omega
  clear h hown hq hqt c0 c1 c2 c5 c6 c7 c8
  go_enter Tryz.func107, Tryz.ntmps107
  go_wp2_with fail
  refine (rNumber_of 1000000000 _ _ rfl hq6 (by decide)).mono ?_
  rintro e w1 ⟨rfl, rfl⟩
  rw [HT.out]
  have hnb := numI_bounds 1000000000 (hd ts).txt
  generalize hnn : numI 1000000000 (hd ts).txt = nn at *
  go_wp2_with fail
  refine (St.next H.out (by omega) ⟨ts, rfl, by omega⟩).mono ?_
  rintro e w2 ⟨rfl, hst, hg⟩
  have HS2 : Hid (St w2 b pv s deep (.ok ((), ts.tail))) := hst
  have HO2 : Hid (w2.ownsRow 0 80 8 pv n xs) := row_grown H.out HO.out hg
  have HK2 : Hid (Kept b pv w1 pv w2) := (Kept.refl _ _ _).grown hg
  clear hst hg c3 c4
  go_wp2_with fail
  refine (St.lay HS2.out HO2.out (by omega) ⟨0, nn, 0, ⟨#[]⟩, none, 0, 0, none, 0, 0, 0, 0⟩).mono ?_
  rintro e w3 ⟨pv3, rfl, s3, o3, k3⟩
  have HP : Hid (PartRes w1 b pv s deep xs M (innerP rec ts deep) n w3) := hid (by
    refine leaf_res HK2.out HS2.out HO2.out s3 o3 k3 ?_ ?_ ?_
    · rw [HI.out]; exact (show n + 1 + ts.tail.length ≤ M by omega)
    · rw [HI.out]; rfl
    · intro t z e
      rw [HI.out] at e
      injection e with e; injection e with e _
      exact ⟨_, e.symm, ⟨rfl, rfl, rfl, rfl, CondsAre.nil _ _ _ rfl rfl rfl, [], World.ownsRow_nil _ _ _ _, rfl⟩, rfl, rfl⟩)
  clear s3 o3 k3
  go_wp2
  go_ret
  exact ⟨_, rfl, HP.out⟩
set_option maxHeartbeats 2000000 in
theorem inner_neg {w : World} {b : Nat} {pv : Value} {s : ByteArray} {deep : Nat} {ts : List Tok} (h : St w b pv s deep (.ok ((), ts))) (hs : s.size ≤ 5000) (op : Bool) (hk : (hd ts).kind ≠ 1) (hm : isT [45] (hd ts) = true) {rec : Nat → List Tok → Nat → Out Tr} {L : Nat}
    (hf : PartC 100 s (fun ts d => rec 3 ts d) L) (hL : ts.length ≤ L + 1) {n : Nat} {xs : List Value} {M : Nat} (hown : w.ownsRow 0 80 8 pv n xs) (hM : M ≤ 6000) (hB : n + ts.length ≤ M) (hdp : deep ≤ 20) :
    Calls Tryz.prog 107 #[.pointer (some ⟨b, 0, none⟩), .bool true, .bool op] w fun e w' => ∃ i : Int, e = .returned (.int .i64 i) ∧ PartRes w b pv s deep xs M (innerP rec ts deep) i w' := by
  obtain ⟨q, hq, hqt, hqs, _, _, htl, hnum⟩ := h.tok
  obtain ⟨c0, c1, c2, c3, c4, c5, c6, c7, c8⟩ := hq.all
  have hk1 : ((q.k : Int) == 1) = false := by rw [(tok_k hqt).1, beq_eq_false_iff_ne]; omega
  have HI : Hid (innerP rec ts deep = bnd (rec 3 ts.tail deep) fun a r => .ok (.node 0 0 (nd0 3 0) a .nil, r)) := hid (by unfold innerP; rw [if_neg hk, hm]; rfl)
  have H : Hid (St w b pv s deep (.ok ((), ts))) := h
  have HO : Hid (w.ownsRow 0 80 8 pv n xs) := hown
  have HF : Hid (PartC 100 s (fun ts d => rec 3 ts d) L) := hf
  have hl := isT_live hm
  clear h hown hq hqt c0 c1 c2 c4 c5 c6 c7 c8 hf
  go_enter Tryz.func107, Tryz.ntmps107
  go_wp2_with fail
  refine (St.next H.out (by omega) ⟨ts, rfl, hl⟩).mono ?_
  rintro e w2 ⟨rfl, hst, hg⟩
  have HS2 : Hid (St w2 b pv s deep (.ok ((), ts.tail))) := hst
  have HO2 : Hid (w2.ownsRow 0 80 8 pv n xs) := row_grown H.out HO.out hg
  have HK2 : Hid (Kept b pv w pv w2) := (Kept.refl _ _ _).grown hg
  clear hst hg c3
  go_wp2_with fail
  refine (HF.out w2 b pv deep _ n xs (M - 1) HS2.out HO2.out (by omega) (show n + ts.tail.length ≤ M - 1 by omega) (fun t e => by injection e with e; injection e with _ e; subst e; omega) hdp).mono ?_
  rintro e w3 ⟨i, rfl, hp⟩
  obtain ⟨n3, pv3, ys, s3, o3, k3, b3, r3⟩ := hp.out
  have HS3 : Hid (St w3 b pv3 s deep (unitP (rec 3 ts.tail deep))) := s3
  have HO3 : Hid (w3.ownsRow 0 80 8 pv3 n3 (xs ++ ys)) := o3
  have HK3 : Hid (Kept b pv w pv3 w3) := HK2.out.trans k3
  have HB3 : Hid (Bud (M - 1) n3 (rec 3 ts.tail deep)) := b3
  have HR3 : Hid (∀ t z, rec 3 ts.tail deep = .ok (t, z) → ∃ k : Nat, i = k ∧ Rep w3 (xs ++ ys) t k ∧ k + 1 = n3) := r3
  have hn3 : n3 ≤ 6000 := by have := b3.le; omega
  clear hp s3 o3 k3 b3 r3
  go_wp2_with fail
  refine (St.lay HS3.out HO3.out hn3 ⟨3, 0, 0, ⟨#[]⟩, none, 0, 0, none, 0, 0, i, 0⟩).mono ?_
  rintro e w4 ⟨pv4, rfl, s4, o4, k4⟩
  have HP : Hid (PartRes w b pv s deep xs M (innerP rec ts deep) n3 w4) := node_res HS3.out HO3.out HK3.out (Bud.up HB3.out (by omega)) HR3.out s4 o4 k4 HI.out ⟨rfl, rfl, rfl, rfl, CondsAre.nil _ _ _ rfl rfl rfl, [], World.ownsRow_nil _ _ _ _, rfl⟩ rfl rfl
  clear s4 o4 k4
  go_wp2
  go_ret
  exact ⟨_, rfl, HP.out⟩
set_option maxHeartbeats 2000000 in
theorem inner_open {w : World} {b : Nat} {pv : Value} {s : ByteArray} {deep : Nat} {ts : List Tok} (h : St w b pv s deep (.ok ((), ts))) (hk : (hd ts).kind ≠ 1) (hm : isT [45] (hd ts) = false) (ho : isT [40] (hd ts) = true) {rec : Nat → List Tok → Nat → Out Tr} {L : Nat}
    (hw : PartC 113 s (withinP rec) (L + 1)) (hL : ts.length ≤ L + 1) {n : Nat} {xs : List Value} {M : Nat} (hown : w.ownsRow 0 80 8 pv n xs) (hM : M ≤ 6000) (hB : n + ts.length ≤ M) (hdp : deep ≤ 20) :
    Calls Tryz.prog 107 #[.pointer (some ⟨b, 0, none⟩), .bool false, .bool true] w fun e w' => ∃ i : Int, e = .returned (.int .i64 i) ∧ PartRes w b pv s deep xs M (innerP rec ts deep) i w' := by
  obtain ⟨q, hq, hqt, hqs, _, _, htl, hnum⟩ := h.tok
  obtain ⟨c0, c1, c2, c3, c4, c5, c6, c7, c8⟩ := hq.all
  have hk1 : ((q.k : Int) == 1) = false := by rw [(tok_k hqt).1, beq_eq_false_iff_ne]; omega
  have HI : Hid (innerP rec ts deep = withinP rec ts deep) := hid (by unfold innerP; rw [if_neg hk, hm, ho]; rfl)
  have H : Hid (St w b pv s deep (.ok ((), ts))) := h
  have HO : Hid (w.ownsRow 0 80 8 pv n xs) := hown
  have HW : Hid (PartC 113 s (withinP rec) (L + 1)) := hw
  clear h hown hq hqt c0 c1 c2 c4 c5 c6 c7 c8 hw
  go_enter Tryz.func107, Tryz.ntmps107
  go_wp2_with fail
  refine (HW.out w b pv deep _ n xs M H.out HO.out hM (show n + ts.length ≤ M by omega) (fun t e => by injection e with e; injection e with _ e; subst e; omega) hdp).mono ?_
  rintro e w3 ⟨i, rfl, hp⟩
  have HP : Hid (PartRes w b pv s deep xs M (innerP rec ts deep) i w3) := hid (by rw [HI.out]; exact hp)
  clear hp c3
  go_wp2
  go_ret
  exact ⟨_, rfl, HP.out⟩
end Go.Proofs.YtmncdbepjhmkgaaGreatDoor
/- What the document's reader does inside a factor that begins with a word. -/
namespace Go.Proofs.YtmncdbepjhmkgaaGreatDoor
open Go.RowKit LS

theorem kept_below {b : Nat} {pv : Value} {w w' : World} (h : Below w.heap.size w w') : Kept b pv w pv w' := ⟨h.os, h.tape, h.output, h.size, fun k hk _ _ => h.block k hk, Or.inl rfl⟩
theorem PartRes.pre {w0 w w' : World} {b : Nat} {pv : Value} {s : ByteArray} {deep : Nat} {xs : List Value} {M : Nat} {R : Out Tr} {i : Int} (hk : Kept b pv w0 pv w) (h : PartRes w b pv s deep xs M R i w') : PartRes w0 b pv s deep xs M R i w' := by
  obtain ⟨n', pv', ys, h1, h2, h3, h4, h5⟩ := h.out
  exact ⟨n', pv', ys, h1, h2, hk.trans h3, h4, h5⟩
theorem idxI_of {w : List UInt8} {l : List (List UInt8)} {i : Nat} (h : idx w l = some i) : idxI w l = i := by unfold idxI; rw [h]
theorem idxI_no {w : List UInt8} {l : List (List UInt8)} (h : idx w l = none) : idxI w l = -1 := by unfold idxI; rw [h]
theorem innerP_word {rec : Nat → List Tok → Nat → Out Tr} {ts : List Tok} {deep : Nat} (hk : (hd ts).kind = 2) (hm : isT [45] (hd ts) = false) (ho : isT [40] (hd ts) = false) : innerP rec ts deep = match idx (hd ts).txt groupWords with
    | some g => groupP rec g ts.tail deep
    | none => match idx (hd ts).txt overWords with
      | some o => winP o ts.tail
      | none => bnd (selP ts) fun p r => .ok (leafT p, r) := by
  unfold innerP
  rw [if_neg (by omega), hm, ho]
  rfl

set_option maxRecDepth 100000 in
set_option maxHeartbeats 2000000 in
theorem inner_group {w : World} {b : Nat} {pv : Value} {s : ByteArray} {deep : Nat} {ts : List Tok} (h : St w b pv s deep (.ok ((), ts))) (hs : s.size ≤ 5000) (hk : (hd ts).kind = 2) (hm : isT [45] (hd ts) = false) (ho : isT [40] (hd ts) = false) {g : Nat} (hg : idx (hd ts).txt groupWords = some g)
    {rec : Nat → List Tok → Nat → Out Tr} {L : Nat} (hw : PartC 113 s (withinP rec) (L + 1)) (hL : ts.length ≤ L + 1) {n : Nat} {xs : List Value} {M : Nat} (hown : w.ownsRow 0 80 8 pv n xs) (hM : M ≤ 6000) (hB : n + ts.length ≤ M) (hdp : deep ≤ 20) :
    Calls Tryz.prog 107 #[.pointer (some ⟨b, 0, none⟩), .bool false, .bool false] w fun e w' => ∃ i : Int, e = .returned (.int .i64 i) ∧ PartRes w b pv s deep xs M (innerP rec ts deep) i w' := by
  obtain ⟨q, hq, hqt, hqs, _, _, htl, _⟩ := h.tok
  obtain ⟨c0, c1, c2, c3, c4, c5, c6, c7, c8⟩ := hq.all
  have hlt := hq.lt
  have hk1 : ((q.k : Int) == 1) = false := by rw [(tok_k hqt).1, beq_eq_false_iff_ne]; omega
  have HI : Hid (innerP rec ts deep = groupP rec g ts.tail deep) := hid (by rw [innerP_word hk hm ho, hg])
  have HX : Hid (idxI (bl q.tx) groupWords = g) := hid (by rw [(tok_k hqt).2]; exact idxI_of hg)
  have H : Hid (St w b pv s deep (.ok ((), ts))) := h
  have HO : Hid (w.ownsRow 0 80 8 pv n xs) := hown
  have HW : Hid (PartC 113 s (withinP rec) (L + 1)) := hw
  clear h hown hq hqt c0 c1 c2 c5 c6 c7 c8 hw hg
  go_enter Tryz.func107, Tryz.ntmps107
  go_wp2_with fail
  refine (among_any _ _ _ (by decide)).mono ?_
  rintro e w1 ⟨rfl, hb1⟩
  rw [groups_split, HX.out]
  have d4 : w1.cell? ⟨b, 4, none⟩ = some (.string q.tx) := (hb1.cell (p := ⟨b, 4, none⟩) hlt).trans c4
  have HB1 : Hid (Below w.heap.size w w1) := hb1
  clear hb1 c3 c4
  go_wp2_with fail
  refine (among_any _ _ _ (by decide)).mono ?_
  rintro e w2 ⟨rfl, hb2⟩
  rw [overs_split]
  have HB2 : Hid (Below w.heap.size w w2) := HB1.out.trans (hb2.mono HB1.out.size)
  have HS2 : Hid (St w2 b pv s deep (.ok ((), ts))) := St.kept H.out (HB2.out.block b hlt)
  have HO2 : Hid (w2.ownsRow 0 80 8 pv n xs) := own_below HO.out HB2.out
  generalize idxI (bl q.tx) overWords = oi
  clear hb2 d4 HB1
  go_wp2_with fail
  refine (group_any HS2.out (by omega) (by omega) g _ rfl HW.out hL HO2.out hM hB hdp).mono ?_
  rintro e w3 ⟨i, rfl, hp⟩
  have HP : Hid (PartRes w b pv s deep xs M (innerP rec ts deep) i w3) := hid (by rw [HI.out]; exact hp.pre (kept_below HB2.out))
  clear hp
  go_wp2
  go_ret
  exact ⟨_, rfl, HP.out⟩
theorem SelIs.base {w : World} {base : Nat} {p : PV} {nd : Nd} (h : SelIs w base p nd) : SelIs w 0 p nd := by
  obtain ⟨h1, h2, qs, h3, h4⟩ := h
  exact ⟨h1, h2, qs, own_base h3, h4⟩
theorem PV.eta (p : PV) : p = ⟨p.k, p.n, p.op, p.nm, p.ca, p.cn, p.cc, p.ba, p.bn, p.bc, p.a, p.b⟩ := rfl
set_option maxRecDepth 100000 in
set_option maxHeartbeats 2000000 in
theorem inner_sel {w : World} {b : Nat} {pv : Value} {s : ByteArray} {deep : Nat} {ts : List Tok} (h : St w b pv s deep (.ok ((), ts))) (hs : s.size ≤ 5000) (hk : (hd ts).kind = 2) (hm : isT [45] (hd ts) = false) (ho : isT [40] (hd ts) = false) (hg : idx (hd ts).txt groupWords = none) (hv : idx (hd ts).txt overWords = none)
    (hr : reserved (hd ts) = false) (rec : Nat → List Tok → Nat → Out Tr) {n : Nat} {xs : List Value} {M : Nat} (hown : w.ownsRow 0 80 8 pv n xs) (hM : M ≤ 6000) (hB : n + ts.length ≤ M) :
    Calls Tryz.prog 107 #[.pointer (some ⟨b, 0, none⟩), .bool false, .bool false] w fun e w' => ∃ i : Int, e = .returned (.int .i64 i) ∧ PartRes w b pv s deep xs M (innerP rec ts deep) i w' := by
  obtain ⟨q, hq, hqt, hqs, _, _, htl, _⟩ := h.tok
  obtain ⟨c0, c1, c2, c3, c4, c5, c6, c7, c8⟩ := hq.all
  have hlt := hq.lt
  have hk1 : ((q.k : Int) == 1) = false := by rw [(tok_k hqt).1, beq_eq_false_iff_ne]; omega
  have HI : Hid (innerP rec ts deep = bnd (selP ts) fun p r => .ok (leafT p, r)) := hid (by rw [innerP_word hk hm ho, hg, hv])
  have HX : Hid (idxI (bl q.tx) groupWords = -1) := hid (by rw [(tok_k hqt).2]; exact idxI_no hg)
  have HY : Hid (idxI (bl q.tx) overWords = -1) := hid (by rw [(tok_k hqt).2]; exact idxI_no hv)
  have H : Hid (St w b pv s deep (.ok ((), ts))) := h
  have HO : Hid (w.ownsRow 0 80 8 pv n xs) := hown
  have HBU : Hid (Bud M (n + 1) (bnd (selP ts) fun p r => (.ok (leafT p, r) : Out Tr))) := hid (by
    unfold selP nameP
    rw [hr]
    show Bud M (n + 1) (bnd (bnd (kindP 2 ts) _) _)
    unfold kindP
    rw [if_pos hk, bnd_bnd]
    have h0 : Bud M (n + 1) (.ok ((hd ts).txt, ts.tail) : Out (List UInt8)) := (show n + 1 + ts.tail.length ≤ M by omega)
    refine h0.bnd ?_
    intro a t z e hz
    injection e with e; injection e with _ e; subst e
    obtain ⟨x, t2, h1, h2⟩ := bnd_ok hz
    injection h2 with h2; subst h2
    split at h1
    · obtain ⟨cs, t3, h3, h4⟩ := bnd_ok h1
      injection h4 with h4; injection h4 with _ h4; subst h4
      have := listP_len condP_len _ _ _ _ h3
      simp at this ⊢
      omega
    · injection h1 with h1; injection h1 with _ h1; subst h1; exact Nat.le_refl _)
  clear h hown hq hqt c0 c1 c2 c5 c6 c7 c8 hg hv
  go_enter Tryz.func107, Tryz.ntmps107
  go_wp2_with fail
  refine (among_any _ _ _ (by decide)).mono ?_
  rintro e w1 ⟨rfl, hb1⟩
  rw [groups_split, HX.out]
  have d4 : w1.cell? ⟨b, 4, none⟩ = some (.string q.tx) := (hb1.cell (p := ⟨b, 4, none⟩) hlt).trans c4
  have HB1 : Hid (Below w.heap.size w w1) := hb1
  clear hb1 c3 c4
  go_wp2_with fail
  refine (among_any _ _ _ (by decide)).mono ?_
  rintro e w2 ⟨rfl, hb2⟩
  rw [overs_split, HY.out]
  have HB2 : Hid (Below w.heap.size w w2) := HB1.out.trans (hb2.mono HB1.out.size)
  have HS2 : Hid (St w2 b pv s deep (.ok ((), ts))) := St.kept H.out (HB2.out.block b hlt)
  have HO2 : Hid (w2.ownsRow 0 80 8 pv n xs) := own_below HO.out HB2.out
  clear hb2 d4 HB1
  go_wp2_with fail
  refine (qsel_any HS2.out (by omega)).mono ?_
  rintro e w3 ⟨p, rfl, hst, hsi, hg3⟩
  have HS3 : Hid (St w3 b pv s deep (unitP (selP ts))) := hst
  have HO3 : Hid (w3.ownsRow 0 80 8 pv n xs) := row_grown HS2.out HO2.out hg3
  have HK3 : Hid (Kept b pv w pv w3) := (kept_below HB2.out).grown hg3
  have HS3a : Hid (∀ o, St (w3.alloc o) b pv s deep (unitP (selP ts))) := fun o => St.kept HS3.out (Go.Deep.blk_alloc_lt _ _ _ (St.lt HS3.out))
  have HO3a : Hid (∀ o, (w3.alloc o).ownsRow 0 80 8 pv n xs) := fun o => World.ownsRow.alloc HO3.out o
  have HK3a : Hid (∀ o, Kept b pv w pv (w3.alloc o)) := fun o => HK3.out.grown (World.grownBy_alloc _ _ _)
  have HSI : Hid (∀ o z, selP ts = .ok z → SelIs (w3.alloc o) 0 p z.1) := hid (by
    intro o z e
    obtain ⟨q1, q2, qs, q3, q4⟩ := hsi.out _ rfl z e
    exact ⟨q1, q2, qs, own_base (q3.alloc o), q4⟩)
  clear hst hg3 hsi
  go_wp2_with fail
  refine (St.lay (HS3a.out _) (HO3a.out _) (by omega) p).mono ?_
  rintro e w4 ⟨pv4, rfl, s4, o4, k4⟩
  have HP : Hid (PartRes w b pv s deep xs M (innerP rec ts deep) n w4) := hid (by
    refine leaf_res (HK3a.out _) (HS3a.out _) (HO3a.out _) s4 o4 k4 (by rw [HI.out]; exact HBU.out) ?_ ?_
    · rw [HI.out]
      cases selP ts with
      | error e => rfl
      | ok x => rfl
    · intro t z e
      rw [HI.out] at e
      obtain ⟨nd, r, e1, e2⟩ := bnd_ok e
      injection e2 with e2; injection e2 with e2 _
      obtain ⟨q1, q2, q3⟩ := HSI.out _ _ e1
      refine ⟨nd, e2.symm, ?_, by rw [q1], by rw [q1]⟩
      have q2' : nd = ⟨1, 0, 0, bl p.nm, nd.conds, []⟩ := q2
      rw [q2']
      refine ⟨by rw [q1]; rfl, by rw [q1], by rw [q1]; rfl, rfl, q3, [], ?_, rfl⟩
      rw [q1]; exact World.ownsRow_nil _ _ _ _)
  clear s4 o4 k4
  go_wp2
  go_ret
  exact ⟨_, rfl, HP.out⟩
end Go.Proofs.YtmncdbepjhmkgaaGreatDoor
