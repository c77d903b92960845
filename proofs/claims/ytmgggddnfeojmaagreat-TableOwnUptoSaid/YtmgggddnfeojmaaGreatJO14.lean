/-
  Walks: a new disk. Walks: a table opened out of its file. Walks: a table opened out of its file, as the program does. Memory: a map by places in a file.
-/
import Derived.Deep.RegionLaw
import Derived.Test.YtmgggddnfeojmaaGreatJO12
import Derived.Test.YtmgggddnfeojmaaGreatJO13
set_option linter.unusedSimpArgs false
set_option linter.unusedVariables false
namespace Go.Proofs.YtmgggddnfeojmaaGreat
open Go.RowKit
open Go.Maps
/-- A disk without files, as it is laid. -/
theorem PSt.fresh {w W : World} {B g b : Nat} (hk : PkAt W g ⟨b, [], 0, 0, 0, none, [], 0, false⟩) (hg : B ≤ g) (hb : B ≤ b) (hm : W.ownsMap Tryz.prog 9 ptrElem b 0 (.map [])) : PSt W B g ⟨b, [], 0, 0, 0, none, [], 0, false⟩ :=
  ⟨hk, hg, ⟨hm, hb, fun _ h => (List.not_mem_nil h).elim, fun _ h => (List.not_mem_nil h).elim, List.Pairwise.nil, Irow.nil _ _, fun _ h => (List.not_mem_nil h).elim⟩, by show (0 : Int) = wrap64 0; unfold wrap64; omega, ⟨by show (-9223372036854775808 : Int) ≤ 0; omega, by show (0 : Int) ≤ _; omega⟩, ⟨by show (-9223372036854775808 : Int) ≤ 0; omega, by show (0 : Int) ≤ _; omega⟩⟩
/-- It answers a disk, in new memory. -/
def Born (w : World) (m : Vm) (e : Ending) (w' : World) : Prop := ∃ g p, e = .returned (.pointer (some ⟨g, 0, none⟩)) ∧ PSt w' w.heap.size g p ∧ p.vm = m ∧ Below w.heap.size w w'
set_option maxRecDepth 100000 in
set_option maxHeartbeats 4000000 in
theorem new_any (ops room : Int) (A : Option Addr) (keep : List Int) (n c : Nat) (w : World) (hn : keep.length = n) (hk : Ints w A keep) (hl : n * 8 ≤ 140737488355328)
    (hi : ∀ x ∈ keep, -9223372036854775808 ≤ x ∧ x ≤ 9223372036854775807) (ho : -9223372036854775808 ≤ ops ∧ ops ≤ 9223372036854775807) (hm : -9223372036854775808 ≤ room ∧ room ≤ 9223372036854775807) :
    Calls Tryz.prog 10 #[.agg #[.int .i64 ops, .int .i64 room, .slice A n c]] w (Born w ⟨[], room, ops, keep, false⟩) := by
  have hmm := @run_makeMap Tryz.prog
  have hW : ∀ (x y z : Obj), Below w.heap.size w (((w.alloc x).alloc y).alloc z) := fun x y z => ((below_new _ _).alloc (by simp) _).alloc (by simp; omega) _
  have HW := Lib.hid (hW (.cells #[.int .i64 ops, .int .i64 room, .slice A n c] 28) (.map #[] 0) (.cells #[.map (some (w.heap.size + 1)), .int .i64 0, .int .i64 0, .int .i64 0, .slice none 0 0, .bool false] 80))
  have HP : Hid (PSt (((w.alloc (.cells #[.int .i64 ops, .int .i64 room, .slice A n c] 28)).alloc (.map #[] 0)).alloc (.cells #[.map (some (w.heap.size + 1)), .int .i64 0, .int .i64 0, .int .i64 0, .slice none 0 0, .bool false] 80)) w.heap.size (w.heap.size + 2) ⟨w.heap.size + 1, [], 0, 0, 0, none, [], 0, false⟩) := Lib.hid (by
    refine PSt.fresh (w := w) ?_ (by omega) (by omega) ?_
    · have := heap_alloc_new ((w.alloc (.cells #[.int .i64 ops, .int .i64 room, .slice A n c] 28)).alloc (.map #[] 0)) (.cells #[.map (some (w.heap.size + 1)), .int .i64 0, .int .i64 0, .int .i64 0, .slice none 0 0, .bool false] 80)
      rw [show ((w.alloc (.cells #[.int .i64 ops, .int .i64 room, .slice A n c] 28)).alloc (.map #[] 0)).heap.size = w.heap.size + 2 by simp] at this
      exact this
    · have := World.ownsMap_made (H := Addr) (w.alloc (.cells #[.int .i64 ops, .int .i64 room, .slice A n c] 28)) Tryz.prog 9 ptrElem
      rw [show (w.alloc (.cells #[.int .i64 ops, .int .i64 room, .slice A n c] 28)).heap.size = w.heap.size + 1 by simp] at this
      exact this.alloc _)
  have HC := Lib.hid (fun (W : World) (hP : PSt W w.heap.size (w.heap.size + 2) ⟨w.heap.size + 1, [], 0, 0, 0, none, [], 0, false⟩) (hb : Below w.heap.size w W) => begin_any _ _ _ ops room A keep n c W hP hn (Lies.kept hk hb) hl hi ho hm)
  clear hn hk hl hi ho hm hW
  go_enter Tryz.func10, Tryz.ntmps10
  go_wp2_with (go_at_call 32; refine (HC.out _ HP.out HW.out).mono ?_; rintro e w2 ⟨rfl, A', c', hp, hd⟩; have E := Lib.hid (And.intro hp hd); clear hp hd)
  go_ret
  obtain ⟨hp, hd⟩ := E.out
  exact ⟨_, _, rfl, hp, rfl, HW.out.trans (hd.below HW.out.size (fun k hk => (HP.out.owned k hk).1))⟩
end Go.Proofs.YtmgggddnfeojmaaGreat
namespace Go.Proofs.YtmgggddnfeojmaaGreat
open Go.RowKit
def tblO (data : Value) (ra : Option Addr) (rn rc : Nat) (cnt : Int) (great : Value) (mb : Nat) : Obj := .cells #[data, .slice ra rn rc, .int .i64 cnt, great, .map (some mb)] 104 (0, 0)
theorem tbl_cells {W : World} {b : Nat} {d g : Value} {ra : Option Addr} {rn rc mb : Nat} {cnt : Int} (h : W.heap[b]? = some (tblO d ra rn rc cnt g mb)) :
    (W.cell? ⟨b, 0, none⟩ = some d ∧ W.cell? ⟨b, 1, none⟩ = some (.slice ra rn rc) ∧ W.cell? ⟨b, 2, none⟩ = some (.int .i64 cnt) ∧ W.cell? ⟨b, 3, none⟩ = some g ∧ W.cell? ⟨b, 4, none⟩ = some (.map (some mb))) ∧ W.frozen? ⟨b, 1, none⟩ = false ∧ W.frozen? ⟨b, 2, none⟩ = false := by
  unfold tblO at h
  refine ⟨⟨?_, ?_, ?_, ?_, ?_⟩, ?_, ?_⟩ <;> simp [World.cell?, World.frozen?, h]
theorem tbl_set1 {W : World} {b : Nat} {d g : Value} {ra ra' : Option Addr} {rn rn' rc rc' mb : Nat} {cnt : Int} (h : W.heap[b]? = some (tblO d ra rn rc cnt g mb)) : (W.setCell ⟨b, 1, none⟩ (.slice ra' rn' rc')).heap[b]? = some (tblO d ra' rn' rc' cnt g mb) :=
  heap_setCell_same W b 1 _ _ (.slice ra' rn' rc') h
theorem tbl_set2 {W : World} {b : Nat} {d g : Value} {ra : Option Addr} {rn rc mb : Nat} {cnt cnt' : Int} (h : W.heap[b]? = some (tblO d ra rn rc cnt g mb)) : (W.setCell ⟨b, 2, none⟩ (.int .i64 cnt')).heap[b]? = some (tblO d ra rn rc cnt' g mb) :=
  heap_setCell_same W b 2 _ _ (.int .i64 cnt') h
theorem obj_set_other {W : World} {b g i : Nat} {v : Value} {o : Obj} (h : W.heap[g]? = some o) (hne : g ≠ b) : (W.setCell ⟨b, i, none⟩ v).heap[g]? = some o := by
  rw [heap_setCell_other _ _ _ _ hne]
  exact h
theorem obj_kept {w w' : World} {B g : Nat} {o : Obj} (h : w.heap[g]? = some o) (hb : Below B w w') (hB : w.heap.size ≤ B) : w'.heap[g]? = some o := by
  have hlt : g < w.heap.size := (Array.getElem?_eq_some_iff.1 h).1
  rw [hb.block g (by omega)]
  exact h
theorem obj_alloc {w : World} {g : Nat} {o : Obj} (h : w.heap[g]? = some o) (p : Obj) : (w.alloc p).heap[g]? = some o := obj_kept h (below_new w p) (Nat.le_refl _)
theorem own_setx {W : World} {B : Nat} {e : TypeId} {size : Nat} {A : Option Addr} {n c : Nat} {xs : List Value} {b i : Nat} {v : Value} (h : W.ownsRow B e size (.slice A n c) n xs) (hne : ∀ ad, A = some ad → ad.block ≠ b) : (W.setCell ⟨b, i, none⟩ v).ownsRow B e size (.slice A n c) n xs :=
  own_kp h ((Kp.refl (fun j => j ≠ b) W).set b i v (by simp)) hne
theorem own_not {W : World} {B : Nat} {e : TypeId} {size : Nat} {A : Option Addr} {n c m : Nat} {xs : List Value} {b : Nat} {o : Obj} (h : W.ownsRow B e size (.slice A n c) m xs) (ho : W.heap[b]? = some o) (ht : ∀ cs fr, o ≠ .cells cs e fr) : ∀ ad, A = some ad → ad.block ≠ b := fun ad ha hb => by
  rcases h.2 with ⟨hn, _⟩ | ⟨g', cap', cur', e2, _, h2', _⟩
  · rw [ha] at hn
    simp at hn
  · rw [ha] at e2
    injection e2 with e3 e4 e5
    injection e3 with e3
    rw [e3] at hb
    simp only at hb
    subst hb
    rw [ho] at h2'
    injection h2' with h2'
    exact ht _ _ h2'
theorem tb_more {W w8 w7 : World} {bt mb rx B rc k rn2 rc2 : Nat} {ra ra2 : Option Addr} {RS : List Rm} {d g : Value} {cnt : Int} {o : Obj} (g8 : W.grownBy w8 (Value.slice ra k rc).ownBlock) (hl : RS.length = k) (hR : Rrow w7 B ra rc RS) (hT : w7.heap[bt]? = some (tblO d ra2 rn2 rc2 cnt g mb)) (hP : w7.heap[mb]? = some (.map #[] 0)) (hX : w7.heap[rx]? = some o) (hx : ∀ ad, ra = some ad → ad.block < rx) (hW : Below w7.heap.size w7 W) :
    w8.heap[bt]? = some (tblO d ra2 rn2 rc2 cnt g mb) ∧ w8.heap[mb]? = some (.map #[] 0) ∧ w8.heap[rx]? = some o := by
  subst hl
  have hR' := hR.kept hW (Nat.le_refl _)
  refine ⟨obj_beside (obj_kept hT hW (Nat.le_refl _)) hR' (by intro cs fr; unfold tblO; intro e; injection e with _ e; exact absurd e (by decide)) g8, obj_beside (obj_kept hP hW (Nat.le_refl _)) hR' (by intro cs fr e; cases e) g8, ?_⟩
  have h1 := obj_kept hX hW (Nat.le_refl _)
  have hlt : rx < W.heap.size := (Array.getElem?_eq_some_iff.1 h1).1
  rw [g8.block rx hlt]
  · exact h1
  · intro e
    cases ra with
    | none => simp [Value.ownBlock] at e
    | some ad =>
      have h2 := hx ad rfl
      obtain rfl : rx = ad.block := by simpa [Value.ownBlock] using e
      omega
theorem tb_set {W0 W : World} {B bt mb rx rc i : Nat} {ra : Option Addr} {RS : List Rm} {d g v : Value} {cnt : Int} {cs : Array Value} {ra2 : Option Addr} {rn2 rc2 : Nat} (hT : W.heap[bt]? = some (tblO d ra2 rn2 rc2 cnt g mb)) (hP : W.heap[mb]? = some (.map #[] 0)) (hX : W.heap[rx]? = some (.cells cs 100 (0, 0))) (hR : Rrow W B ra rc RS) (hB : Below W0.heap.size W0 W) (hb : W0.heap.size ≤ bt) :
    (W.setCell ⟨bt, i, none⟩ v).heap[mb]? = some (.map #[] 0) ∧ (W.setCell ⟨bt, i, none⟩ v).heap[rx]? = some (.cells cs 100 (0, 0)) ∧ Rrow (W.setCell ⟨bt, i, none⟩ v) B ra rc RS ∧ Below W0.heap.size W0 (W.setCell ⟨bt, i, none⟩ v) := by
  refine ⟨obj_set_other hP (fun e => ?_), obj_set_other hX (fun e => ?_), own_setx hR (own_not hR hT (by intro cs fr; unfold tblO; intro e; injection e with _ e; exact absurd e (by decide))), ((Kp.of_below hB).set bt i v (by omega)).below (fun _ h => h)⟩
  · subst e
    rw [hT] at hP
    unfold tblO at hP
    injection hP with hP
    cases hP
  · subst e
    rw [hT] at hX
    unfold tblO at hX
    injection hX with hX
    injection hX with _ hX
    exact absurd hX (by decide)
/-- What stands behind some of the rows. -/
structure TrS (il : List Er) (ix : List En) (z a0 : Int) (k : Nat) (a : Int) (R : List Rm) : Prop where
  go : rowsP z il a0 [] = rowsP z (il.drop k) a (R.map Rm.rd)
  lo : 0 ≤ a
  hi : a ≤ z
  ok : RowsOk z.toNat R
  top : ∀ r ∈ R, r.tu ≤ a
  keys : ∀ r ∈ R, ∃ q ∈ ix, r.k = q.k
  nth : ∀ (j : Nat) (r : Rm), R[j]? = some r → ∃ q, ix[j]? = some q ∧ r.k = q.k ∧ r.s = q.s
  len : R.length = k
theorem rowP_rm {x : En} {a z : Int} {q : Rw} (h : rowP x.rd a z = some q) : ∃ r : Rm, r.k = x.k ∧ r.s = x.s ∧ q = r.rd := by
  unfold rowP at h
  split at h
  · cases h
  · split at h
    · cases h
    · injection h with h
      exact ⟨⟨x.k, x.s, q.count, q.fro, q.upTo⟩, rfl, rfl, by rw [← h]; rfl⟩
theorem rowsP_none {z a : Int} {il : List Er} {k : Nat} {acc : List Rw} {e : Er} (he : il[k]? = some e) (h : rowP e a z = none) : rowsP z (il.drop k) a acc = none := by
  obtain ⟨hi, e1⟩ := List.getElem?_eq_some_iff.1 he
  rw [List.drop_eq_getElem_cons hi, e1]
  unfold rowsP
  rw [h]
theorem rowsP_some {z a : Int} {il : List Er} {k : Nat} {acc : List Rw} {e : Er} {r : Rw} (he : il[k]? = some e) (h : rowP e a z = some r) : rowsP z (il.drop k) a acc = rowsP z (il.drop (k + 1)) r.upTo (acc ++ [r]) := by
  obtain ⟨hi, e1⟩ := List.getElem?_eq_some_iff.1 he
  rw [List.drop_eq_getElem_cons hi, e1]
  conv => lhs; unfold rowsP
  rw [h]
theorem TrS.step {il : List Er} {ix : List En} {z a0 a : Int} {k : Nat} {R : List Rm} {x : En} {r : Rm} (h : TrS il ix z a0 k a R) (hx : ix[k]? = some x) (hil : il = ers ix) (hr : rowP x.rd a z = some r.rd) (hk : r.k = x.k) (hf : EFit x) (hY : Byt x.v.l) : TrS il ix z a0 (k + 1) r.tu (R ++ [r]) ∧ 1 ≤ r.n ∧ r.n ≤ 1024 := by
  have hb : (a ≤ r.tu ∧ r.tu ≤ z) ∧ (1 ≤ r.n ∧ r.n ≤ 1024) ∧ r.fro = a ∧ r.s = x.s := by
    have g := hr
    unfold rowP at g
    split at g
    · cases g
    · next h1 =>
      split at g
      · cases g
      · next h2 =>
        injection g with g
        have g1 : (uintP x.rd.2.2.2 0).1 = r.n := congrArg Rw.count g
        have g2 : a = r.fro := congrArg Rw.fro g
        have g3 : a + (uintP x.rd.2.2.2 (uintP x.rd.2.2.2 0).2.1).1 = r.tu := congrArg Rw.upTo g
        have g4 : x.rd.2.1 = r.s := congrArg (fun q : Rw => q.first.2.1) g
        simp only [not_or] at h1 h2
        have hnn := (uintP_bd x.rd.2.2.2 (uintP x.rd.2.2.2 0).2.1 hY).1
        exact ⟨⟨by omega, by omega⟩, ⟨by omega, by omega⟩, g2.symm, g4.symm⟩
  obtain ⟨⟨b1, b2⟩, ⟨b3, b4⟩, b5, b6⟩ := hb
  have he : il[k]? = some x.rd := by rw [hil]; exact ers_get hx
  have h0 := h.lo
  refine ⟨⟨?_, by omega, b2, ⟨?_, ?_, ?_⟩, ?_, ?_, ?_, by rw [List.length_append, h.len]; rfl⟩, b3, b4⟩
  · rw [h.go, rowsP_some he hr, List.map_append]
    rfl
  · intro q hq
    rcases List.mem_append.1 hq with hq | hq
    · exact h.ok.lo q hq
    · rw [List.mem_singleton] at hq
      subst hq
      exact ⟨by omega, by omega, by have := Int.toNat_of_nonneg (a := z) (by omega); omega⟩
  · intro q hq
    rcases List.mem_append.1 hq with hq | hq
    · exact h.ok.fit q hq
    · rw [List.mem_singleton] at hq
      subst hq
      exact ⟨by rw [b6]; exact hf, b3, b4⟩
  · intro i j p q hij hp hq
    have hj := (List.getElem?_eq_some_iff.1 hq).1
    rw [List.length_append, List.length_singleton] at hj
    have hi : i < R.length := by omega
    rw [List.getElem?_append_left hi] at hp
    by_cases hjR : j < R.length
    · rw [List.getElem?_append_left hjR] at hq
      exact h.ok.up i j p q hij hp hq
    · obtain rfl : j = R.length := by omega
      rw [List.getElem?_append_right (Nat.le_refl _), Nat.sub_self] at hq
      simp at hq
      subst hq
      rw [b5]
      exact h.top p (List.mem_of_getElem? hp)
  · intro q hq
    rcases List.mem_append.1 hq with hq | hq
    · have := h.top q hq; omega
    · rw [List.mem_singleton] at hq
      subst hq
      exact Int.le_refl _
  · intro q hq
    rcases List.mem_append.1 hq with hq | hq
    · exact h.keys q hq
    · rw [List.mem_singleton] at hq
      subst hq
      exact ⟨x, List.mem_of_getElem? hx, hk⟩
  · intro j q hq
    have hj := (List.getElem?_eq_some_iff.1 hq).1
    rw [List.length_append, List.length_singleton] at hj
    by_cases hjR : j < R.length
    · rw [List.getElem?_append_left hjR] at hq
      exact h.nth j q hq
    · obtain rfl : j = R.length := by omega
      rw [List.getElem?_append_right (Nat.le_refl _), Nat.sub_self] at hq
      simp at hq
      subst hq
      exact ⟨x, by rw [h.len]; exact hx, hk, b6⟩
theorem TrS.ord {il : List Er} {ix : List En} {z a0 a : Int} {k : Nat} {R : List Rm} (h : TrS il ix z a0 k a R) (ho : OrdL (ers ix)) (i j : Nat) (r s : Rm) (hij : i < j) (hr : R[i]? = some r) (hs : R[j]? = some s) : ordE r.rd.first s.rd.first < 0 := by
  obtain ⟨p, p1, p2, p3⟩ := h.nth i r hr
  obtain ⟨q, q1, q2, q3⟩ := h.nth j s hs
  have := ordL_sorted ho hij (ers_get p1) (ers_get q1)
  rw [ordE_lt] at this ⊢
  simpa [Rm.rd, En.rd, p2, p3, q2, q3] using this
theorem idxP_few {L : List Int} (hB : Byt L) : ∀ (n : Nat) (a : Int) (acc l : List Er) (a' : Int), (acc.length : Int) ≤ a → a ≤ L.length → idxP L n a acc = some (l, a') → (l.length : Int) ≤ L.length
  | 0, a, acc, l, a', h0, h1, h => by
    unfold idxP at h
    injection h with h
    have e : acc = l := congrArg Prod.fst h
    rw [← e]
    omega
  | n + 1, a, acc, l, a', h0, h1, h => by
    unfold idxP at h
    split at h
    · cases h
    · next h2 =>
      split at h
      · cases h
      · next l2 hu =>
        obtain ⟨f1, -, f3⟩ := fRead_facts (a := a) hB
        have f4 := f3 (by simpa using h2)
        have f5 := unpackE_few f1 hu
        exact idxP_few hB n _ _ l a' (by simp only [List.length_append]; omega) (by omega) h
/-- What the opening of bytes answers. -/
def TbE (w : World) (r : Option Tb) (e : Ending) (w' : World) : Prop := Below w.heap.size w w' ∧ match r with
  | none => ∃ p, e = .returned (.tuple #[.pointer p, .bool false])
  | some tb => ∃ t : Tm, e = .returned (.tuple #[.pointer (some ⟨t.b, 0, none⟩), .bool true]) ∧ TabAt w' t ∧ t.tb = tb ∧ w.heap.size ≤ t.b ∧ w.heap.size ≤ t.mb ∧ t.cnt = (tb.rows.map Rw.count).sum
theorem tbE_none {w w' : World} {r : Option Tb} {p : Option Addr} (h : r = none) (hb : Below w.heap.size w w') : TbE w r (.returned (.tuple #[.pointer p, .bool false])) w' := by
  subst h
  exact ⟨hb, p, rfl⟩
end Go.Proofs.YtmgggddnfeojmaaGreat
namespace Go.Proofs.YtmgggddnfeojmaaGreat
open Go.RowKit
set_option maxRecDepth 100000 in
set_option maxHeartbeats 16000000 in
theorem tableOf_any (A : Option Addr) (L : List Int) (n c : Nat) (w : World) (h : In w A L n c) (hl : n ≤ 1099511627776) :
    Calls Tryz.prog 43 #[.slice A n c] w (TbE w (tableP L)) := by
  have hmm := @run_makeMap Tryz.prog
  have HI : Hid (∀ W, Below w.heap.size w W → In W A L n c) := Lib.hid (fun W hb => h.kept hb)
  have HY := Lib.hid h.byt
  have HN := Lib.hid h.len
  have HL := Lib.hid hl
  have HH := Lib.hid (headOf_any A L n c w h)
  obtain ⟨R, hR⟩ : ∃ R, tableP L = R := ⟨_, rfl⟩
  rw [hR]
  unfold tableP at hR
  have q1 := fun n a K => headP_le (n := n) (a := a) (K := K) HY.out
  unfold HdE at HH
  cases hp : headP L with
  | none =>
    rw [hp] at hR HH
    have HE := Lib.hid hR.symm
    clear hR q1 h hl hp
    go_enter Tryz.func43, Tryz.ntmps43
    go_wp2_with (go_at_call 67; refine HH.out.mono ?_; rintro e w1 ⟨b1, x1, x2, x3, x4, x5, rfl⟩; have B1 := Lib.hid b1; clear b1)
    go_ret2
    exact tbE_none HE.out B1.out
  | some p =>
    obtain ⟨num, K, a1⟩ := p
    rw [hp] at hR HH
    have hq1 := q1 num a1 K hp
    clear q1 h hl hp
    simp only at hR HH
    have HIX : Hid (∀ W, In W A L n c → 0 ≤ num → num ≤ 18446744073709551615 → Calls Tryz.prog 68 #[.slice A n c, .int .i64 a1, .int .u64 num] W (IxE W (idxP L num.toNat a1 []))) := Lib.hid (fun W hi h1 h2 => indexAt_any A L n c a1 num W hi HL.out h1 h2 hq1.1)
    have q2 := fun l a' (h : idxP L num.toNat a1 [] = some (l, a')) => And.intro (idxP_le HY.out num.toNat a1 [] l a' hq1.1 hq1.2 h) (idxP_few HY.out num.toNat a1 [] l a' (by simpa using hq1.1) hq1.2 h)
    unfold IxE at HIX
    cases hx : idxP L num.toNat a1 [] with
    | none =>
      rw [hx] at hR HIX
      have HE := Lib.hid hR.symm
      clear hR q2 hx hq1
      go_enter Tryz.func43, Tryz.ntmps43
      go_wp2_with (first
        | (go_at_call 67; refine HH.out.mono ?_; rintro e w1 ⟨b1, A1, c1, rfl, -, -, -, n1, n2, -⟩; have B1 := Lib.hid b1; have N1 := Lib.hid (And.intro n1 n2); clear b1 n1 n2)
        | (go_at_call 68; refine (HIX.out _ (HI.out _ B1.out) N1.out.1 N1.out.2).mono ?_; rintro e w2 ⟨b2, x1, x2, x3, x4, rfl⟩; have B2 := Lib.hid (below_then B1.out b2); clear b2))
      go_ret2
      exact tbE_none HE.out B2.out
    | some p =>
      obtain ⟨il, a2⟩ := p
      rw [hx] at hR HIX
      have hq2 := q2 il a2 hx
      clear q2 hx hq1
      simp only at hR HIX
      by_cases h0 : il = []
      · rw [if_pos (.inl h0)] at hR
        have HE := Lib.hid hR.symm
        subst h0
        clear hR hq2
        go_enter Tryz.func43, Tryz.ntmps43
        go_wp2_with (first
          | (go_at_call 67; refine HH.out.mono ?_; rintro e w1 ⟨b1, A1, c1, rfl, -, -, -, n1, n2, -⟩; have B1 := Lib.hid b1; have N1 := Lib.hid (And.intro n1 n2); clear b1 n1 n2)
          | (go_at_call 68; refine (HIX.out _ (HI.out _ B1.out) N1.out.1 N1.out.2).mono ?_; rintro e w2 ⟨b2, ix, A2, c2, e2, rfl, -⟩; (obtain rfl : ix = [] := List.map_eq_nil_iff.1 e2); have B2 := Lib.hid (below_then B1.out b2); clear b2 e2))
        go_ret2
        exact tbE_none HE.out B2.out
      · obtain ⟨b, hb⟩ : ∃ b, decide (OrdL il) = b := ⟨_, rfl⟩
        have HMS : Hid (∀ (ix : List En) A c m W, ers ix = il → ix.length = m → Lies W A (evals ix) → EIns W ix → (∀ q ∈ ix, EFit q) → ix.length * 64 ≤ 140737488351232 → Calls Tryz.prog 33 #[.slice A m c] W fun e w' => e = .returned (.bool b) ∧ Below W.heap.size W w') := Lib.hid (fun ix A c m W e hm h1 h2 h3 h4 => by
          have := mayStand_any A ix m c W hm h1 h2 h3 (by rw [← hm]; exact h4)
          rwa [e, hb] at this)
        obtain ⟨m, hm⟩ : ∃ m, il.length = m := ⟨_, rfl⟩
        have HM := Lib.hid hm
        have HFE : Hid (il.length ≤ 1099511627776) := Lib.hid (by have := hq2.2; have := HN.out; have := HL.out; omega)
        have m0 : ((m : Int) == 0) = false := by
          have : m ≠ 0 := fun e => h0 (List.eq_nil_of_length_eq_zero (by omega))
          simpa using this
        clear hm
        cases b with
        | false =>
          rw [if_pos (.inr (by simpa using hb))] at hR
          have HE := Lib.hid hR.symm
          clear hR hq2 hb h0
          go_enter Tryz.func43, Tryz.ntmps43
          go_wp2_with (first
            | (go_at_call 67; refine HH.out.mono ?_; rintro e w1 ⟨b1, A1, c1, rfl, r1, y1, -, n1, n2, -⟩; have B1 := Lib.hid b1; have N1 := Lib.hid (And.intro n1 n2); have R1 := Lib.hid r1; have Y1 := Lib.hid y1; clear b1 n1 n2 r1 y1)
            | (go_at_call 68; refine (HIX.out _ (HI.out _ B1.out) N1.out.1 N1.out.2).mono ?_; rintro e w2 ⟨b2, ix, A2, c2, e2, rfl, m2, r2, y2, f2⟩; rw [show ix.length = m by rw [← HM.out, ← e2, ers_len]]; have E2 := Lib.hid e2; have M2 := Lib.hid (m2.ins (fun p hp => y2 p (e2 ▸ hp))); have R2 := Lib.hid r2; have F2 := Lib.hid f2; have B12 := Lib.hid b2; have B2 := Lib.hid (below_then B1.out b2); clear b2 e2 m2 r2 y2 f2)
            | (go_at_call 33; refine (HMS.out ix A2 c2 m w2 E2.out (by rw [← HM.out, ← E2.out, ers_len]) R2.out.lies M2.out F2.out (by have := HFE.out; rw [← E2.out, ers_len] at this; omega)).mono ?_; rintro e w3 ⟨rfl, b3⟩; have B23 := Lib.hid b3; have B3 := Lib.hid (below_then B2.out b3); clear b3))
          go_ret2
          exact tbE_none HE.out B3.out
        | true =>
          rw [if_neg (by simp only [not_or]; exact ⟨h0, by simpa using hb⟩)] at hR
          have HRR := Lib.hid hR
          have HO : Hid (OrdL il) := Lib.hid (by simpa using hb)
          clear hR hb h0
          go_enter Tryz.func43, Tryz.ntmps43
          go_upto_region 7 with (first
            | (go_at_call 67; refine HH.out.mono ?_; rintro e w1 ⟨b1, A1, c1, rfl, r1, y1, -, n1, n2, -⟩; have B1 := Lib.hid b1; have N1 := Lib.hid (And.intro n1 n2); have R1 := Lib.hid r1; have Y1 := Lib.hid y1; clear b1 n1 n2 r1 y1)
            | (go_at_call 68; refine (HIX.out _ (HI.out _ B1.out) N1.out.1 N1.out.2).mono ?_; rintro e w2 ⟨b2, ix, A2, c2, e2, rfl, m2, r2, y2, f2⟩; rw [show ix.length = m by rw [← HM.out, ← e2, ers_len]]; have E2 := Lib.hid e2; have M2 := Lib.hid (m2.ins (fun p hp => y2 p (e2 ▸ hp))); have R2 := Lib.hid r2; have F2 := Lib.hid f2; have B12 := Lib.hid b2; have B2 := Lib.hid (below_then B1.out b2); clear b2 e2 m2 r2 y2 f2)
            | (go_at_call 33; refine (HMS.out ix A2 c2 m w2 E2.out (by rw [← HM.out, ← E2.out, ers_len]) R2.out.lies M2.out F2.out (by have := HFE.out; rw [← E2.out, ers_len] at this; omega)).mono ?_; rintro e w3 ⟨rfl, b3⟩; have B23 := Lib.hid b3; have B3 := Lib.hid (below_then B2.out b3); clear b3))
          clear HH HIX HMS
          have KB : Hid (Byt K) := Y1
          obtain ⟨kn, hkn⟩ : ∃ t, K.length = t := ⟨_, rfl⟩
          rw [hkn]
          have HKN := Lib.hid hkn
          clear hkn
          go_upto_region 9 with fail
          obtain ⟨w5, hw5⟩ : ∃ w5, (w3.alloc (.map #[] 0)).alloc (.cells #[.slice A n c, .slice none 0 0, .int .i64 0, .slice A1 kn c1, .map (some w3.heap.size)] 104) = w5 := ⟨_, rfl⟩
          have B5 : Hid (Below w3.heap.size w3 w5) := Lib.hid (hw5 ▸ (below_new _ _).alloc (by simp) _)
          have T5 : Hid (w5.heap[w3.heap.size + 1]? = some (tblO (.slice A n c) none 0 0 0 (.slice A1 kn c1) w3.heap.size)) := Lib.hid (by
            have := heap_alloc_new (w3.alloc (.map #[] 0)) (.cells #[.slice A n c, .slice none 0 0, .int .i64 0, .slice A1 kn c1, .map (some w3.heap.size)] 104)
            rwa [hw5, show (w3.alloc (.map #[] 0)).heap.size = w3.heap.size + 1 by simp] at this)
          have P5 : Hid (w5.heap[w3.heap.size]? = some (.map #[] 0)) := Lib.hid (by rw [← hw5]; exact obj_alloc (heap_alloc_new w3 _) _)
          rw [hw5]
          obtain ⟨bt, hbt⟩ : ∃ b, w3.heap.size + 1 = b := ⟨_, rfl⟩
          obtain ⟨mb, hmb⟩ : ∃ b, w3.heap.size = b := ⟨_, rfl⟩
          have BT : Hid (w3.heap.size ≤ bt) := Lib.hid (by omega)
          have MB : Hid (w3.heap.size = mb ∧ mb ≠ bt) := Lib.hid (by omega)
          rw [hbt] at T5 ⊢
          rw [hmb] at T5 P5
          clear hw5 hbt hmb
          have LI : Hid (∀ W, Below w3.heap.size w3 W → Lies W A2 (evals ix) ∧ EIns W ix ∧ Row W w.heap.size A1 c1 K) := Lib.hid (fun W hb => ⟨R2.out.lies.kept (below_then B23.out hb), M2.out.kept (below_then B23.out hb), ((R1.out.kept B12.out (Nat.le_refl _)).kept B23.out (Nat.le_refl _)).kept hb (Nat.le_refl _)⟩)
          have IL : Hid (∀ W, Below w3.heap.size w3 W → In W A L n c) := Lib.hid (fun W hb => HI.out W (B3.out.trans (hb.mono B3.out.size)))
          clear HI R1 M2 R2 B1 B2 B12 B23 Y1 N1
          have HM3 : Hid (ix.length = m) := Lib.hid (by rw [← HM.out, ← E2.out, ers_len])
          have HLZ : Hid ((L.length : Int) = n ∧ (n : Int) ≤ 1099511627776) := Lib.hid (by have := HN.out; have := HL.out; omega)
          have HMM : Hid ((m : Int) ≤ 1099511627776) := Lib.hid (by have := HFE.out; have := HM.out; omega)
          have TR0 : Hid (TrS il ix n a2 0 a2 []) := Lib.hid ⟨rfl, hq2.1.1, by have := HLZ.out.1; omega, ⟨(fun r hr => by cases hr), (fun r hr => by cases hr), (fun i j r s _ hr => by simp at hr)⟩, (fun r hr => by cases hr), (fun r hr => by cases hr), (fun j r hr => by simp at hr), rfl⟩
          have HRR2 : Hid (R = match rowsP n il a2 [] with | none => none | some rows => some ⟨L, rows, K⟩) := Lib.hid (by rw [← HRR.out, HLZ.out.1]; cases rowsP (n : Int) il a2 [] <;> rfl)
          clear hq2 HRR m0
          go_loopw [6, 50] (fun t6 t50 wr => ∃ (k : Nat) (a : Int) (RS : List Rm) (ra : Option Addr) (rc : Nat) (cnt : Int), k ≤ m ∧ t50 = .int .i64 k ∧ t6 = .int .i64 a ∧ Hid (TrS il ix n a2 k a RS) ∧ Hid (cnt = ((RS.map Rm.rd).map Rw.count).sum ∧ 0 ≤ cnt ∧ cnt ≤ 1024 * k) ∧ Hid (wr.heap[bt]? = some (tblO (.slice A n c) ra k rc cnt (.slice A1 kn c1) mb)) ∧ Hid (wr.heap[mb]? = some (.map #[] 0)) ∧ Hid (Rrow wr w3.heap.size ra rc RS) ∧ Hid (Below w3.heap.size w3 wr)) (fun _ t50 _ => m - (intOf t50).toNat)
          case atStart => exact ⟨0, a2, [], none, 0, 0, by omega, rfl, rfl, TR0, Lib.hid ⟨rfl, by omega, by omega⟩, T5, P5, Lib.hid (Rrow.nil _ _), B5⟩
          case round =>
            clear T5 P5 B5 TR0
            obtain ⟨k, a, RS, ra, rc, cnt, hk, rfl, rfl, HTR, HCN, HT, HP, HRW, HBB⟩ := hrel
            have hmm9 := HMM.out
            by_cases hlt : k < m
            · have hq := List.getElem?_eq_getElem (l := ix) (i := k) (by have := HM3.out; omega)
              generalize ix[k]'(by have := HM3.out; omega) = x at hq
              obtain ⟨l1, l2, -⟩ := LI.out _ HBB.out
              obtain ⟨ad, rfl, x0, x1, x2, x3⟩ := lies_entry l1 hq
              have HX : Hid (∀ W, Below w3.heap.size w3 W → EIn W x) := Lib.hid (fun W hb => (LI.out W hb).2.1 x (List.mem_of_getElem? hq))
              have HFX := Lib.hid (F2.out x (List.mem_of_getElem? hq))
              have HQ := Lib.hid hq
              have z1 : a ≤ (n : Int) := HTR.out.hi
              have z0 := HTR.out.lo
              have HRA : Hid (∀ W, Below w3.heap.size w3 W → Calls Tryz.prog 69 #[x.val, .int .i64 a, .int .i64 n] W (RwE W x (rowP x.rd a n))) := Lib.hid (fun W hb => rowAt_any x a n W (HX.out W hb) z0 z1 (by have := HLZ.out.2; omega))
              have j0 : (k : Int) < m := by omega
              unfold RwE at HRA
              rw [En.val_eq] at HRA
              have hil : il[k]? = some x.rd := by rw [← E2.out]; exact ers_get hq
              cases hrp : rowP x.rd a n with
              | none =>
                rw [hrp] at HRA
                have HE : Hid (R = none) := Lib.hid (by rw [HRR2.out, HTR.out.go, rowsP_none hil hrp])
                clear hrp hil hq l1 l2
                obtain ⟨⟨xa, xc, xl⟩, xs, xd, ⟨va, vc, vl⟩⟩ := x
                simp only at x0 x1 x2 x3 HRA
                go_wp2_with (go_at_call 69; refine (HRA.out _ (HBB.out.alloc HBB.out.size _)).mono ?_; rintro e w6 ⟨b6, rfl⟩; have B6 := Lib.hid ((HBB.out.alloc HBB.out.size _).trans (b6.mono (by have := HBB.out.size; simp; omega))); clear b6)
                go_ret2
                exact tbE_none HE.out ((B3.out.trans (B6.out.mono B3.out.size)).alloc (Nat.le_trans B3.out.size B6.out.size) _)
              | some rw0 =>
                rw [hrp] at HRA
                obtain ⟨r, hrk, hrs, rfl⟩ := rowP_rm hrp
                have HTS := Lib.hid (HTR.out.step hq E2.out.symm hrp hrk HFX.out (HX.out _ HBB.out).2.byt)
                have HRD : Hid (r.k = x.k ∧ r.s = x.s) := Lib.hid ⟨hrk, hrs⟩
                have c1' := HTS.out.2.1
                have c2' := HTS.out.2.2
                have c3' := HCN.out.2.1
                have c4' := HCN.out.2.2
                simp only [Rm.rd] at HRA
                rw [← hrk, ← hrs] at HRA
                have x0' : wr.cell? (ad.add (k * 4)) = some (.slice r.k.a r.k.l.length r.k.c) := by rw [hrk]; exact x0
                have x1' : wr.cell? ⟨(ad.add (k * 4)).block, (ad.add (k * 4)).off + 1, none⟩ = some (.int .i64 r.s) := by rw [hrs]; exact x1
                clear x0 x1 hrk hrs hrp hil hq l1 l2
                obtain ⟨xd, hxd⟩ : ∃ t, x.d = t := ⟨_, rfl⟩
                obtain ⟨xv, hxv⟩ : ∃ t, x.v = t := ⟨_, rfl⟩
                rw [hxd] at x2 HRA
                rw [hxv] at x3 HRA
                obtain ⟨⟨ka, kc, kl⟩, rs, rn, fro, tu⟩ := r
                obtain ⟨va, vc, vl⟩ := xv
                simp only at x0' x1' x2 x3 HRA c1' c2'
                obtain ⟨kln, hkln⟩ : ∃ t, kl.length = t := ⟨_, rfl⟩
                obtain ⟨vln, hvln⟩ : ∃ t, vl.length = t := ⟨_, rfl⟩
                rw [hkln] at x0' HRA
                rw [hvln] at x3 HRA
                have HKLN := Lib.hid hkln
                clear hkln hvln hxd hxv
                go_upto_region 14 with (go_at_call 69; refine (HRA.out _ (HBB.out.alloc HBB.out.size _)).mono ?_; rintro e w6 ⟨b6, rfl⟩; have B6 := Lib.hid (below_then (below_new wr _) b6); clear b6)
                obtain ⟨rx, hrx⟩ : ∃ b, w6.heap.size = b := ⟨_, rfl⟩
                obtain ⟨w7, hw7⟩ : ∃ w7, w6.alloc (.cells #[.slice ka kln kc, .int .i64 rs, .bool false, .slice none 0 0, .int .i64 rn, .int .i64 fro, .int .i64 tu] 100) = w7 := ⟨_, rfl⟩
                have B7 : Hid (Below wr.heap.size wr w7) := Lib.hid (hw7 ▸ B6.out.alloc B6.out.size _)
                have X7 : Hid (w7.heap[rx]? = some (.cells #[.slice ka kln kc, .int .i64 rs, .bool false, .slice none 0 0, .int .i64 rn, .int .i64 fro, .int .i64 tu] 100 (0, 0))) := Lib.hid (by rw [← hw7, ← hrx]; exact heap_alloc_new w6 _)
                have RX : Hid (wr.heap.size ≤ rx) := Lib.hid (hrx ▸ B6.out.size)
                rw [hw7, hrx]
                clear hw7 hrx
                have T7 := Lib.hid (obj_kept HT.out B7.out (Nat.le_refl _))
                have P7 := Lib.hid (obj_kept HP.out B7.out (Nat.le_refl _))
                have R7 := Lib.hid (HRW.out.kept B7.out (Nat.le_refl _))
                have RB7 : Hid (∀ ad, ra = some ad → ad.block < rx) := Lib.hid (fun ad ha => Nat.lt_of_lt_of_le (own_in HRW.out ad ha).2 RX.out)
                have BB7 := Lib.hid (HBB.out.trans (B7.out.mono HBB.out.size))
                clear x0' x1' x2 x3 HT HP HRW B6 B7 HRA
                obtain ⟨⟨-, y1, -, -, -⟩, -, -⟩ := tbl_cells T7.out
                obtain ⟨⟨c0, c1, c2, c3, c4, c5, c6⟩, -⟩ := seven_facts X7.out
                have yA : ∀ o, (w7.alloc o).cell? ⟨bt, 1, none⟩ = some (.slice ra k rc) := fun o => (tbl_cells (obj_alloc T7.out o)).1.2.1
                have yB : ∀ o, (w7.alloc o).drew.cell? ⟨bt, 1, none⟩ = some (.slice ra k rc) := yA
                go_region_law (refine step_append_rrow _ (by rfl) (.tmp 68) (.tmp 70) (by rfl) w3.heap.size ra rc RS [⟨⟨ka, kc, kl⟩, rs, rn, fro, tu⟩] _ k 1 1 rfl rfl HTR.out.len rfl (R7.out.kept (by repeat (first | exact Below.refl _ _ | refine Below.drew ?_ | refine below_al ?_ _)) (Nat.le_refl _)) (lit_row _ ⟨⟨ka, kc, kl⟩, rs, rn, fro, tu⟩ kln HKLN.out) (Nat.le_trans BB7.out.size (by repeat (first | exact Below.refl _ _ | refine Below.drew ?_ | refine below_al ?_ _) : Below w7.heap.size w7 _).size) (by have := HTR.out.len; have := HMM.out; simp only [List.length_singleton]; omega) ?_; intro A8 c8 w8 r8 b8 g8; have X8 := Lib.hid (tb_more g8 HTR.out.len R7.out T7.out P7.out X7.out RB7.out (by repeat (first | exact Below.refl _ _ | refine Below.drew ?_ | refine below_al ?_ _))); have R8 := Lib.hid r8; have B8 := Lib.hid ((BB7.out.trans ((by repeat (first | exact Below.refl _ _ | refine Below.drew ?_ | refine below_al ?_ _) : Below w7.heap.size w7 _).mono BB7.out.size)).trans b8); obtain ⟨⟨-, z1, -, -, -⟩, f1, -⟩ := tbl_cells X8.out.1; clear r8 b8 g8)
                all_goals
                  have T9 := Lib.hid (tbl_set1 (ra' := A8) (rn' := k + 1) (rc' := c8) X8.out.1)
                  have Y9 := Lib.hid (tb_set (i := 1) (v := .slice A8 (k + 1) c8) X8.out.1 X8.out.2.1 X8.out.2.2 R8.out B8.out BT.out)
                  clear y1 c0 c1 c2 c3 c4 c5 c6 yA yB z1 f1 X8 R8 B8 X7 T7 P7 R7 RB7
                  generalize w8.setCell ⟨bt, 1, none⟩ (.slice A8 (k + 1) c8) = w9 at T9 Y9 ⊢
                  obtain ⟨⟨-, y1, y2, -, -⟩, f1, f2⟩ := tbl_cells T9.out
                  obtain ⟨⟨c0, c1, c2, c3, c4, c5, c6⟩, -⟩ := seven_facts Y9.out.2.1
                  have wq : wrap64 (cnt + rn) = cnt + rn := by unfold wrap64; omega
                  go_upto_region 15 with fail
                  go_region
                  have T10 := Lib.hid (tbl_set2 (cnt' := cnt + rn) T9.out)
                  have Y10 := Lib.hid (tb_set (i := 2) (v := .int .i64 (cnt + rn)) T9.out Y9.out.1 Y9.out.2.1 Y9.out.2.2.1 Y9.out.2.2.2 BT.out)
                  clear y1 y2 f1 f2 c0 c1 c2 c3 c4 c5 c6 T9 Y9
                  generalize w9.setCell ⟨bt, 2, none⟩ (.int .i64 (cnt + rn)) = w10 at T10 Y10 ⊢
                  obtain ⟨⟨c0, c1, c2, c3, c4, c5, c6⟩, -⟩ := seven_facts Y10.out.2.1
                  go_wp2_with fail
                  go_roundw
                  case rel => exact ⟨k + 1, tu, RS ++ [⟨⟨ka, kc, kl⟩, rs, rn, fro, tu⟩], A8, c8, cnt + rn, by omega, by go_num, rfl, Lib.hid HTS.out.1, Lib.hid ⟨by rw [HCN.out.1]; simp [Rm.rd], by omega, by simp only [Int.natCast_add]; omega⟩, T10, Lib.hid Y10.out.1, Lib.hid (Y10.out.2.2.1.kept (Below.refl _ _).drew (Nat.le_refl _)), Lib.hid Y10.out.2.2.2.drew⟩
                  case measure => simp [intOf]; omega
            · obtain rfl : k = m := by omega
              have j0 : ¬ (k : Int) < k := by omega
              obtain ⟨-, -, l3⟩ := LI.out _ HBB.out
              have IA := Lib.hid (IL.out _ HBB.out)
              have LE := Lib.hid (fun q hq => ((LI.out _ HBB.out).2.1 q hq).1)
              have L3 := Lib.hid (l3.in_ KB.out)
              have HBW : Hid (Below w.heap.size w wr) := Lib.hid (B3.out.trans (HBB.out.mono B3.out.size))
              have HRF : Hid (R = if a = (n : Int) then some ⟨L, RS.map Rm.rd, K⟩ else none) := Lib.hid (by
                rw [HRR2.out, HTR.out.go, List.drop_of_length_le (by rw [← E2.out, ers_len, HM3.out]; exact Nat.le_refl _)]
                unfold rowsP
                by_cases g : a = (n : Int)
                · rw [if_pos g, if_pos g]
                · rw [if_neg g, if_neg g])
              clear l3
              by_cases g : a = (n : Int)
              · have g' : (a == (n : Int)) = true := by simpa using g
                have HE : Hid (R = some ⟨L, RS.map Rm.rd, K⟩) := Lib.hid (by rw [HRF.out, if_pos g])
                clear HRF HRR2 g
                go_wp2_with fail
                go_ret2
                rw [HE.out]
                refine ⟨HBW.out, ⟨bt, A, c, L, ra, rc, RS, cnt, A1, c1, K, mb⟩, rfl, ⟨?_, by rw [HN.out]; exact IA.out, HRW.out.lies, own_cap HRW.out, ?_, L3.out, by have := HTR.out.ok; rwa [Int.toNat_natCast, ← HN.out] at this, HTR.out.ord (by rw [E2.out]; exact HO.out), ⟨[], 0, HP.out, fun e he => by cases he⟩⟩, rfl, Nat.le_trans B3.out.size BT.out, by have := MB.out.1; have := B3.out.size; simp only; omega, HCN.out.1⟩
                · have e := HT.out
                  unfold tblO at e
                  unfold Tm.cells
                  simp only [HN.out, HTR.out.len, HKN.out]
                  exact e
                · intro r hr
                  obtain ⟨q, hq, e⟩ := HTR.out.keys r hr
                  rw [e]
                  exact LE.out q hq
              · have g' : (a == (n : Int)) = false := by simpa using g
                have HE : Hid (R = none) := Lib.hid (by rw [HRF.out, if_neg g])
                clear HRF HRR2 g
                go_wp2_with fail
                go_ret2
                exact tbE_none HE.out HBW.out
end Go.Proofs.YtmgggddnfeojmaaGreat
namespace Go.Proofs.YtmgggddnfeojmaaGreat
open Go.RowKit
theorem part_int (cs : Array Value) (i : Nat) (x : Value) (W : World) (h : cs[i]? = some x) : (part 3 cs i).run Tryz.prog W = .ok x W := by
  have hu := Tryz.underlying3
  unfold part
  simp [run_underlying hu, h]
theorem equalIn_int (n : Nat) (x y : Int) (W : World) : (Op.equalIn (n + 1) 3 (.int .i64 x) (.int .i64 y)).run Tryz.prog W = .ok (x == y) W := by
  have hu := Tryz.underlying3
  unfold Op.equalIn
  simp [run_underlying hu]
set_option maxRecDepth 100000 in
theorem equal_place (a b c d : Int) (W : World) : (Op.equal 98 (.agg #[.int .i64 a, .int .i64 b]) (.agg #[.int .i64 c, .int .i64 d])).run Tryz.prog W = .ok (decide (a = c ∧ b = d)) W := by
  unfold Op.equal
  rw [show Op.maxDepth = 9998 + 1 + 1 from rfl]
  unfold Op.equalIn
  have hu := Tryz.underlying98
  have e : ∀ (x y : Int) (W : World), (Op.equalIn 9999 3 (.int .i64 x) (.int .i64 y)).run Tryz.prog W = .ok (x == y) W := fun x y W => equalIn_int 9998 x y W
  have p0 : ∀ (x y : Value) (W : World), (part 3 #[x, y] 0).run Tryz.prog W = .ok x W := fun x y W => part_int #[x, y] 0 x W rfl
  have p1 : ∀ (x y : Value) (W : World), (part 3 #[x, y] 1).run Tryz.prog W = .ok y W := fun x y W => part_int #[x, y] 1 y W rfl
  simp only [run_underlying hu]
  by_cases h : a = c
  · by_cases g : b = d <;> simp [h, g, p0, p1, e, run_underlying hu]
  · simp [h, p0, p1, e, run_underlying hu]
/-- A place in a file as a map's key. -/
def plV (f u : Int) : Value := .agg #[.int .i64 f, .int .i64 u]
def KeysP (es : List MapEntry) : Prop := ∀ e ∈ es, ∃ f u, e.key = plV f u
open Classical in
/-- The block that was read of that place. -/
noncomputable def hitP (f u : Int) (es : List MapEntry) : Option (Nat × Value) := match es with
  | [] => none
  | e :: es => if e.key = plV f u then some (0, e.val) else (hitP f u es).map (fun p => (p.1 + 1, p.2))
theorem plV_inj {a b c d : Int} : plV a b = plV c d ↔ a = c ∧ b = d := by
  unfold plV
  constructor
  · intro h
    injection h with h
    have h1 := congrArg (fun x : Array Value => x[0]?) h
    have h2 := congrArg (fun x : Array Value => x[1]?) h
    simp at h1 h2
    exact ⟨h1, h2⟩
  · rintro ⟨rfl, rfl⟩
    rfl
theorem asking_place (f u : Int) : ∀ (es : List MapEntry) (i : Nat) (W : World), KeysP es → (Instr.findAsking 98 (plV f u) es i).run Tryz.prog W = .ok ((hitP f u es).map (fun p => (p.1 + i, p.2))) W
  | [], i, W, _ => by
    unfold Instr.findAsking
    simp [hitP]
  | e :: es, i, W, h => by
    obtain ⟨a, b, he⟩ := h e (by simp)
    have ih := asking_place f u es (i + 1) W (fun x hx => h x (by simp [hx]))
    unfold Instr.findAsking hitP
    rw [he, plV_inj]
    have eq := equal_place f u a b W
    rw [show (.agg #[.int .i64 f, .int .i64 u] : Value) = plV f u from rfl, show (.agg #[.int .i64 a, .int .i64 b] : Value) = plV a b from rfl] at eq
    by_cases g : f = a ∧ u = b
    · rw [if_pos ⟨g.1.symm, g.2.symm⟩]
      rw [show decide (f = a ∧ u = b) = true by simpa using g] at eq
      simp only [Sem.run_bind, eq, Result.andThen_ok, if_true]
      simp
    · rw [if_neg (fun k => g ⟨k.1.symm, k.2.symm⟩)]
      have g' : decide (f = a ∧ u = b) = false := by simpa using g
      rw [g'] at eq
      simp only [Sem.run_bind, eq, Result.andThen_ok]
      simp only [Bool.false_eq_true, if_false, ih]
      cases hitP f u es with
      | none => simp
      | some p => simp; omega
theorem find_place (f u : Int) (es : List MapEntry) (W : World) (h : KeysP es) : (Instr.findKey 98 (plV f u) es).run Tryz.prog W = .ok (hitP f u es) W := by
  have hu := Tryz.underlying98
  unfold Instr.findKey
  cases es with
  | nil =>
    simp [run_underlying hu, Instr.findNow, hitP]
  | cons e es =>
    have ha := asking_place f u (e :: es) 0 W h
    simp only [Nat.add_zero] at ha
    have hn : ∀ S, Instr.findNow (.struct S) (plV f u) (e :: es) 0 = none := fun _ => rfl
    simp only [Sem.run_bind, run_underlying hu, Result.andThen_ok, hn, ha]
    cases hitP f u (e :: es) <;> rfl
theorem check_place (b : Bool) (f u : Int) (W : World) : (Instr.checkKey b 10000 98 (plV f u)).run Tryz.prog W = .ok () W := by
  have hu := Tryz.underlying98
  have hi := Tryz.underlying3
  have p0 : ∀ (x y : Value) (W : World), (part 3 #[x, y] 0).run Tryz.prog W = .ok x W := fun x y W => part_int #[x, y] 0 x W rfl
  have p1 : ∀ (x y : Value) (W : World), (part 3 #[x, y] 1).run Tryz.prog W = .ok y W := fun x y W => part_int #[x, y] 1 y W rfl
  have e : ∀ (x : Int) (W : World), (Instr.checkKey b 9999 3 (.int .i64 x)).run Tryz.prog W = .ok () W := fun x W => by
    rw [show 9999 = 9998 + 1 from rfl]
    unfold Instr.checkKey
    simp [run_underlying hi]
  rw [show 10000 = 9999 + 1 from rfl]
  unfold Instr.checkKey plV
  simp [run_underlying hu, p0, p1, e]
def mapW (W : World) (mb : Nat) (es : List MapEntry) (ck : Nat) : World := { W with heap := W.heap.setIfInBounds mb (.map es.toArray ck) }
theorem look_place (mb : Nat) (f u : Int) (es : List MapEntry) (ck : Nat) (W : World) (hm : W.heap[mb]? = some (.map es.toArray ck)) (hk : KeysP es) : (Instr.lookup 102 (.map (some mb)) (plV f u) true).run Tryz.prog W = .ok (.tuple #[match hitP f u es with | some p => p.2 | none => .slice none 0 0, .bool (hitP f u es).isSome]) W := by
  have hu := Tryz.underlying102
  have hz := Tryz.zeroValue22
  have hf := find_place f u es W hk
  unfold Instr.lookup
  simp only [Sem.run_bind, run_underlying hu, Result.andThen_ok]
  have hg := Go.MapKept.run_getObj_map (P := Tryz.prog) hm
  simp only [Sem.run_bind, hg, Result.andThen_ok, Sem.run_pure, check_place]
  rw [hf]
  cases hitP f u es with
  | none => simp [hz]
  | some p => simp
theorem put_place (mb : Nat) (f u : Int) (v : Value) (es : List MapEntry) (ck : Nat) (W : World) (hm : W.heap[mb]? = some (.map es.toArray ck)) (hk : KeysP es) (hn : hitP f u es = none) : (Instr.mapUpdate 102 (.map (some mb)) (plV f u) v).run Tryz.prog W = .ok () (mapW W mb (es ++ [⟨plV f u, v, ck⟩]) (ck + 1)) := by
  have hu := Tryz.underlying102
  have hf := find_place f u es W hk
  unfold Instr.mapUpdate
  simp only [Sem.run_bind, run_underlying hu, Result.andThen_ok]
  have hg := Go.MapKept.run_getObj_map (P := Tryz.prog) hm
  simp only [Sem.run_bind, hg, Result.andThen_ok, check_place]
  rw [hf, hn]
  simp only [Result.andThen_ok]
  rw [Go.MapKept.run_setObj_map (P := Tryz.prog) _ hm]
  unfold mapW
  rw [show (es ++ [(⟨plV f u, v, ck⟩ : MapEntry)]).toArray = es.toArray.push ⟨plV f u, v, ck⟩ by simp]
/-- All is as it was but one map. -/
def Tw (mb : Nat) (w w' : World) : Prop := Kp (fun j => j < w.heap.size ∧ j ≠ mb) w w'
theorem Tw.refl (mb : Nat) (w : World) : Tw mb w w := Kp.refl _ w
theorem Tw.of_below {mb : Nat} {w w' : World} (h : Below w.heap.size w w') : Tw mb w w' := ⟨h.os, h.tape, h.output, h.size, fun k hk => h.block k hk.1⟩
theorem Tw.trans {mb : Nat} {w w1 w2 : World} (h : Tw mb w w1) (k : Tw mb w1 w2) : Tw mb w w2 :=
  ⟨k.os.trans h.os, k.tape.trans h.tape, k.output.trans h.output, Nat.le_trans h.size k.size, fun j hj => (k.block j ⟨Nat.lt_of_lt_of_le hj.1 h.size, hj.2⟩).trans (h.block j hj)⟩
theorem Tw.below {mb B : Nat} {w w' : World} (h : Tw mb w w') (hm : B ≤ mb) (hB : B ≤ w.heap.size) : Below B w w' := ⟨h.os, h.tape, h.output, h.size, fun k hk => h.block k ⟨by omega, by omega⟩⟩
theorem mapW_size (W : World) (mb : Nat) (es : List MapEntry) (ck : Nat) : (mapW W mb es ck).heap.size = W.heap.size := by simp [mapW]
theorem mapW_get {W : World} {mb : Nat} {o : Obj} (h : W.heap[mb]? = some o) (es : List MapEntry) (ck : Nat) : (mapW W mb es ck).heap[mb]? = some (.map es.toArray ck) := by
  have hlt : mb < W.heap.size := (Array.getElem?_eq_some_iff.1 h).1
  simp [mapW, hlt]
theorem Tw.put (W : World) (mb : Nat) (es : List MapEntry) (ck : Nat) : Tw mb W (mapW W mb es ck) := by
  refine ⟨rfl, rfl, rfl, by rw [mapW_size]; exact Nat.le_refl _, fun k hk => ?_⟩
  unfold mapW
  simp only
  rw [Array.getElem?_setIfInBounds_ne (Ne.symm hk.2)]
theorem Tw.obj {mb g : Nat} {w w' : World} {o : Obj} (h : Tw mb w w') (hg : w.heap[g]? = some o) (hne : g ≠ mb) : w'.heap[g]? = some o := by
  have hlt : g < w.heap.size := (Array.getElem?_eq_some_iff.1 hg).1
  rw [h.block g ⟨hlt, hne⟩]
  exact hg
/-- There is a map at a block. -/
def MapAt (w : World) (mb : Nat) : Prop := ∃ es ck, w.heap[mb]? = some (.map es ck)
theorem Tw.cell {mb : Nat} {w w' : World} {a : Addr} {v : Value} (h : Tw mb w w') (hm : MapAt w mb) (hc : w.cell? a = some v) : w'.cell? a = some v := by
  obtain ⟨es, ck, hm⟩ := hm
  have hne : a.block ≠ mb := fun e => by
    rw [← e] at hm
    simp [World.cell?, hm] at hc
  have hlt : a.block < w.heap.size := by
    rcases Nat.lt_or_ge a.block w.heap.size with h | h
    · exact h
    · have : w.heap[a.block]? = none := Array.getElem?_eq_none h
      simp [World.cell?, this] at hc
  unfold World.cell? at hc ⊢
  rw [h.block a.block ⟨hlt, hne⟩]
  exact hc
theorem Lies.tw {mb : Nat} {w w' : World} {A : Option Addr} {xs : List Value} (h : Lies w A xs) (ht : Tw mb w w') (hm : MapAt w mb) : Lies w' A xs := h.imp id (fun ⟨ad, e, k⟩ => ⟨ad, e, fun j u hu => ht.cell hm (k j u hu)⟩)
theorem Bys.tw {mb : Nat} {w w' : World} {A : Option Addr} {L : List Int} (h : Bys w A L) (ht : Tw mb w w') (hm : MapAt w mb) : Bys w' A L := h.imp id (fun ⟨ad, e, k⟩ => ⟨ad, e, fun j u hu => ht.cell hm (k j u hu)⟩)
theorem In.tw {mb : Nat} {w w' : World} {A : Option Addr} {L : List Int} {n c : Nat} (h : In w A L n c) (ht : Tw mb w w') (hm : MapAt w mb) : In w' A L n c := ⟨h.len, h.cap, h.top, h.bys.tw ht hm, h.byt⟩
theorem EIns.tw {mb : Nat} {w w' : World} {l : List En} (h : EIns w l) (ht : Tw mb w w') (hm : MapAt w mb) : EIns w' l := fun q hq => ⟨(h q hq).1.tw ht hm, (h q hq).2.tw ht hm⟩
theorem MapAt.kept {w w' : World} {mb B : Nat} (h : MapAt w mb) (hb : Below B w w') (hB : w.heap.size ≤ B) : MapAt w' mb := by
  obtain ⟨es, ck, h⟩ := h
  exact ⟨es, ck, obj_kept h hb hB⟩
/-- A table, but for the blocks that were read. -/
structure TabC (W : World) (t : Tm) : Prop where
  blk : W.heap[t.b]? = some (.cells t.cells 104 (0, 0))
  data : In W t.da t.L t.L.length t.dc
  rows : Lies W t.ra (rvals t.R)
  rcap : t.R.length ≤ t.rc ∧ (t.rc : Int) ≤ 9223372036854775807
  keys : ∀ r ∈ t.R, In W r.k.a r.k.l r.k.l.length r.k.c
  great : In W t.ga t.K t.K.length t.gc
  ok : RowsOk t.L.length t.R
  ord : ∀ (i j : Nat) (r s : Rm), i < j → t.R[i]? = some r → t.R[j]? = some s → ordE r.rd.first s.rd.first < 0
theorem TabAt.c {W : World} {t : Tm} (h : TabAt W t) : TabC W t := ⟨h.blk, h.data, h.rows, h.rcap, h.keys, h.great, h.ok, h.ord⟩
theorem TabC.at_ {W : World} {t : Tm} (h : TabC W t) (hm : ∃ es ck, W.heap[t.mb]? = some (.map es.toArray ck) ∧ Cached W t es) : TabAt W t := ⟨h.blk, h.data, h.rows, h.rcap, h.keys, h.great, h.ok, h.ord, hm⟩
theorem TabAt.mapAt {W : World} {t : Tm} (h : TabAt W t) : MapAt W t.mb := by
  obtain ⟨es, ck, h, -⟩ := h.map
  exact ⟨_, ck, h⟩
theorem TabC.tw {w w' : World} {t : Tm} (h : TabC w t) (ht : Tw t.mb w w') (hm : MapAt w t.mb) : TabC w' t := by
  refine ⟨ht.obj h.blk (fun e => ?_), h.data.tw ht hm, h.rows.tw ht hm, h.rcap, fun r hr => (h.keys r hr).tw ht hm, h.great.tw ht hm, h.ok, h.ord⟩
  obtain ⟨es, ck, hm⟩ := hm
  rw [← e, h.blk] at hm
  injection hm with hm
  cases hm
theorem TabC.kept {w w' : World} {t : Tm} (h : TabC w t) (hb : Below w.heap.size w w') : TabC w' t := ⟨obj_kept h.blk hb (Nat.le_refl _), h.data.kept hb, h.rows.kept hb, h.rcap, fun r hr => (h.keys r hr).kept hb, h.great.kept hb, h.ok, h.ord⟩
theorem Cached.tw {w w' : World} {t : Tm} {es : List MapEntry} (h : Cached w t es) (ht : Tw t.mb w w') (hm : MapAt w t.mb) : Cached w' t es := fun e he => by
  obtain ⟨f, u, A, l, c, e1, e2, e3, e4, e5, e6, e7⟩ := h e he
  exact ⟨f, u, A, l, c, e1, e2, e3, e4.tw ht hm, e5.tw ht hm, e6, e7⟩
theorem Cached.kept {w w' : World} {t : Tm} {es : List MapEntry} (h : Cached w t es) (hb : Below w.heap.size w w') : Cached w' t es := fun e he => by
  obtain ⟨f, u, A, l, c, e1, e2, e3, e4, e5, e6, e7⟩ := h e he
  exact ⟨f, u, A, l, c, e1, e2, e3, e4.kept hb, e5.kept hb, e6, e7⟩
theorem TabAt.kept {w w' : World} {t : Tm} (h : TabAt w t) (hb : Below w.heap.size w w') : TabAt w' t := by
  obtain ⟨es, ck, h1, h2⟩ := h.map
  exact (h.c.kept hb).at_ ⟨es, ck, obj_kept h1 hb (Nat.le_refl _), h2.kept hb⟩
theorem Cached.keys {W : World} {t : Tm} {es : List MapEntry} (h : Cached W t es) : KeysP es := fun e he => by
  obtain ⟨f, u, A, l, c, e1, -⟩ := h e he
  exact ⟨f, u, e1⟩
theorem hit_mem {f u : Int} : ∀ {es : List MapEntry} {p : Nat × Value}, hitP f u es = some p → ∃ e ∈ es, e.key = plV f u ∧ e.val = p.2
  | [], p, h => by simp [hitP] at h
  | e :: es, p, h => by
    unfold hitP at h
    split at h
    · next g =>
      injection h with h
      exact ⟨e, by simp, g, by rw [← h]⟩
    · cases hh : hitP f u es with
      | none => rw [hh] at h; simp at h
      | some q =>
        rw [hh] at h
        simp at h
        obtain ⟨e', h1, h2, h3⟩ := hit_mem hh
        exact ⟨e', by simp [h1], h2, by rw [h3, ← h]⟩
/-- A place that a block could be read of is no other row's. -/
theorem place_one {t : Tm} {i j : Nat} {r s : Rm} {l : List Er} (ho : RowsOk t.L.length t.R) (hB : Byt t.L) (hi : t.R[i]? = some r) (hj : t.R[j]? = some s) (h1 : r.fro = s.fro) (h2 : r.tu = s.tu) (hb : blockP t.tb i = some l) : i = j := by
  have hlt : r.fro < r.tu := by
    unfold blockP at hb
    rw [show t.tb.rows[i]? = some r.rd by simp [Tm.tb, hi]] at hb
    simp only at hb
    split at hb
    · cases hb
    · next g =>
      simp only [not_or, Decidable.not_not] at g
      have := (fRead_facts (L := t.L) (a := r.fro) hB).2.2 g.1
      have e : (fReadP t.L r.fro).2.1 = r.tu := g.2
      omega
  rcases Nat.lt_trichotomy i j with g | g | g
  · have := ho.up i j r s g hi hj
    omega
  · exact g
  · have := ho.up j i s r g hj hi
    omega
end Go.Proofs.YtmgggddnfeojmaaGreat
