/-
  Memory: pairs as they lie, two cells each.
-/
import Derived.Test.YtimonpoeieenpaaKMemK
import Derived.Test.YtimonpoeieenpaaKBk
import Derived.Laws.Strings
import Derived.Deep.QuietTactic
import Derived.BigQuiet
import Derived.Deep.RegionLaw
import Derived.Deep.RegionHeld3
import Derived.Deep.RegionWith
import Derived.Lib.BufferMore
import Derived.Deep.CutRange
import Derived.Deep.Cut
import Derived.Deep.CutBlock
namespace Go.Proofs.Ytimonpoeieenpaa
open Go.RowKit

/-- A text's bytes as numbers. -/
def nums (s : ByteArray) : List Int := s.data.toList.map fun b => (b.toNat : Int)
theorem nums_len (s : ByteArray) : (nums s).length = s.size := by simp [nums]
theorem nums_byt (s : ByteArray) : Byt (nums s) := fun x hx => by
  obtain ⟨b, -, rfl⟩ := List.mem_map.1 hx
  have := b.toNat_lt
  omega
theorem nums_str (s : ByteArray) : strOfNums (nums s) = s := by
  obtain ⟨d⟩ := s
  unfold strOfNums nums
  rw [List.map_map]
  have : ((fun n : Int => UInt8.ofNat n.toNat) ∘ fun b : UInt8 => (b.toNat : Int)) = id := by
    funext b
    simp
  rw [this]
  simp
theorem nums_of_str (L : List Int) (h : Byt L) : nums (strOfNums L) = L := by
  unfold strOfNums nums
  simp only [List.map_map]
  conv => rhs; rw [← List.map_id L]
  refine List.map_congr_left fun x hx => ?_
  obtain ⟨h0, h1⟩ := h x hx
  simp only [Function.comp, id]
  have : (UInt8.ofNat x.toNat).toNat = x.toNat := by
    rw [UInt8.toNat_ofNat']
    omega
  omega
theorem nums_get (s : ByteArray) (k : Nat) (h : k < s.size) : (nums s)[k]? = some ((s[k].toNat : Nat) : Int) := by
  have : s.data.toList[k]? = some s[k] := by
    rw [Array.getElem?_toList, Array.getElem?_eq_getElem h]
    rfl
  simp [nums, this]
theorem str_inj {s t : ByteArray} (h : nums s = nums t) : s = t := by rw [← nums_str s, ← nums_str t, h]
theorem str_of_inj {L M : List Int} (hL : Byt L) (hM : Byt M) : strOfNums L = strOfNums M ↔ L = M :=
  ⟨fun h => by rw [← nums_of_str L hL, ← nums_of_str M hM, h], fun h => by rw [h]⟩
theorem str_size (L : List Int) : (strOfNums L).size = L.length := by simp [strOfNums, ByteArray.size]

/-- A pair as it lies. -/
structure Bp where
  k : Sl
  v : Sl
def Bp.val (q : Bp) : Value := .agg #[q.k.val, q.v.val]
def Bp.cells (q : Bp) : List Value := [q.k.val, q.v.val]
/-- What is read of a pair. -/
def Bp.rd (q : Bp) : Pr := (q.k.l, q.v.l)
def rds (l : List Bp) : List Pr := l.map Bp.rd
theorem rds_len (l : List Bp) : (rds l).length = l.length := by simp [rds]
theorem rds_append (l m : List Bp) : rds (l ++ m) = rds l ++ rds m := by simp [rds]
theorem rds_get {l : List Bp} {j : Nat} {q : Bp} (h : l[j]? = some q) : (rds l)[j]? = some q.rd := by simp [rds, h]
theorem rds_take (l : List Bp) (n : Nat) : rds (l.take n) = (rds l).take n := by simp [rds, List.map_take]
def pvals (l : List Bp) : List Value := l.flatMap Bp.cells
theorem pvals_len : ∀ l : List Bp, (pvals l).length = l.length * 2
  | [] => rfl
  | q :: l => by
    have := pvals_len l
    unfold pvals at this ⊢
    rw [List.flatMap_cons, List.length_append, this]
    simp [Bp.cells]
    omega
theorem pvals_append (l m : List Bp) : pvals (l ++ m) = pvals l ++ pvals m := by simp [pvals]
theorem pvals_get : ∀ (l : List Bp) (j : Nat) (q : Bp), l[j]? = some q → (pvals l)[j * 2]? = some q.k.val ∧ (pvals l)[j * 2 + 1]? = some q.v.val
  | [], _, _, h => by simp at h
  | p :: l, 0, q, h => by
    simp at h
    subst h
    exact ⟨rfl, rfl⟩
  | p :: l, j + 1, q, h => by
    have ih := pvals_get l j q (by simpa using h)
    have e : pvals (p :: l) = p.k.val :: p.v.val :: pvals l := rfl
    rw [e]
    have e0 : (j + 1) * 2 = j * 2 + 1 + 1 := by omega
    rw [e0]
    refine ⟨by simpa using ih.1, ?_⟩
    rw [show j * 2 + 1 + 1 + 1 = (j * 2 + 1) + 1 + 1 by omega]
    simpa using ih.2
theorem pvals_one {l : List Bp} : ∀ u ∈ pvals l, u.oneCell' = true := fun u hu => by
  obtain ⟨q, -, h⟩ := List.mem_flatMap.1 hu
  simp [Bp.cells] at h
  rcases h with rfl | rfl <;> rfl

/-- The cells of one pair, as a walk spells them. -/
def AtP (w : World) (E : Addr) (q : Bp) : Prop := w.cell? E = some (.slice q.k.a q.k.l.length q.k.c) ∧ w.cell? ⟨E.block, E.off + 1, none⟩ = some (.slice q.v.a q.v.l.length q.v.c)
theorem lies_pair {w : World} {A : Option Addr} {l : List Bp} {j : Nat} {q : Bp} (h : Lies w A (pvals l)) (hq : l[j]? = some q) : ∃ ad, A = some ad ∧ AtP w (ad.add (j * 2)) q := by
  obtain ⟨h0, h1⟩ := pvals_get l j q hq
  rcases h with h | ⟨ad, rfl, h2⟩
  · rw [h] at h0
    simp at h0
  · refine ⟨ad, rfl, ?_, ?_⟩
    · simpa [Sl.val] using h2 _ _ h0
    · have := h2 _ _ h1
      rw [← add_add] at this
      simpa [Addr.add, Sl.val] using this
theorem lies_pair_at {w : World} {ad : Addr} {l : List Bp} {j : Nat} {q : Bp} (h : Lies w (some ad) (pvals l)) (hq : l[j]? = some q) : AtP w (ad.add (j * 2)) q := by
  obtain ⟨ad', e, h'⟩ := lies_pair h hq
  injection e with e
  subst e
  exact h'
theorem below_drewN {B : Nat} {a w : World} (h : Below B a w) (n : Nat) : Below B a (w.drewN n) := ⟨h.os, h.tape, h.output, h.size, h.block⟩
theorem Lies.alloc {w : World} {A : Option Addr} {xs : List Value} (h : Lies w A xs) (o : Obj) : Lies (w.alloc o) A xs := h.kept (below_new w o)

theorem info42 : (Try.prog.info? 42).map (fun i => (i.zero, i.size, i.bytes)) = some (some (.agg #[.slice none 0 0, .slice none 0 0]), 2, 48) := by kernel_rfl

/-- A row of pairs of the call's own, or nil. -/
def Prow (w : World) (B : Nat) (A : Option Addr) (c : Nat) (l : List Bp) : Prop := w.ownsRow B 42 2 (.slice A l.length c) l.length (pvals l)
theorem Prow.nil (w : World) (B : Nat) : Prow w B none 0 [] := World.ownsRow_nil w B _ _
theorem Prow.lies {w : World} {B : Nat} {A : Option Addr} {c : Nat} {l : List Bp} (h : Prow w B A c l) : Lies w A (pvals l) := by
  rcases h.2 with ⟨_, h⟩ | ⟨g, cap, cur, e, _⟩
  · exact .inl (by rw [List.eq_nil_of_length_eq_zero h]; rfl)
  · injection e with e1 e2 e3
    subst e1
    exact .inr ⟨_, rfl, fun j u hu => World.ownsRow.cells h (g := g) rfl j u hu⟩
theorem Prow.kept {w w' : World} {B C : Nat} {A : Option Addr} {c : Nat} {l : List Bp} (h : Prow w B A c l) (hb : Below C w w') (hC : w.heap.size ≤ C) : Prow w' B A c l := own_kept h hb hC
theorem Prow.mono {w : World} {B C : Nat} {A : Option Addr} {c : Nat} {l : List Bp} (h : Prow w B A c l) (hC : C ≤ B) : Prow w C A c l := own_mono h hC
theorem Prow.alloc {w : World} {B : Nat} {A : Option Addr} {c : Nat} {l : List Bp} (h : Prow w B A c l) (o : Obj) : Prow (w.alloc o) B A c l := h.kept (below_new w o) (Nat.le_refl _)
theorem run_append_prow (w : World) (ty : TypeId) (B : Nat) (A : Option Addr) (c : Nat) (T U : List Bp) (C : Option Addr) (cm : Nat) (h : Prow w B A c T) (hm : Lies w C (pvals U)) (hB : B ≤ w.heap.size) (hr : (T.length + U.length) * 48 ≤ 140737488355328) :
    ∃ A' c' w', (Builtin.append_ #[22, 22] ty #[.slice A T.length c, .slice C U.length cm]).run Try.prog w = .ok (.slice A' (T.length + U.length) c') w' ∧ Prow w' B A' c' (T ++ U) ∧ Below B w w' ∧ w.grownBy w' (Value.slice A T.length c).ownBlock := by
  obtain ⟨i, hi, hz0, hz1, hz2⟩ := info_parts info42
  obtain ⟨A', c', w', r, h2, h3, h4⟩ := run_append_grown (P := Try.prog) w 22 ty 42 i (.agg #[.slice none 0 0, .slice none 0 0]) 2 48 Try.underlying22 hi hz0 hz1 hz2 rfl (by decide) B A T.length c (pvals T) h C U.length cm (pvals U) (by rw [pvals_len]) hm pvals_one (by unfold maxLen; omega) hr hB
  rw [← pvals_append] at h2
  exact ⟨A', c', w', r, by unfold Prow; rw [List.length_append]; exact h2, h3, h4⟩
theorem wpList_append_prow (w : World) {ops : Array Oper} {rest : List Oper} {o : Oper} {a : Act} {Q : Exit → Act → World → Prop} (hgd : o.guard = none) (s x : Operand)
    (ho : o.op = .call { callee := .builtin .append, args := #[s, x], argTypes := #[22, 22] })
    (B : Nat) (A : Option Addr) (c : Nat) (T U : List Bp) (C : Option Addr) (n m cm : Nat) (hs : a.eval s = .slice A n c) (hx : a.eval x = .slice C m cm) (en : T.length = n) (em : U.length = m) (h : Prow w B A c T) (hm : Lies w C (pvals U)) (hB : B ≤ w.heap.size) (hr : (T.length + U.length) * 48 ≤ 140737488355328)
    (k : ∀ A' c' w', Prow w' B A' c' (T ++ U) → Below B w w' → w.grownBy w' (Value.slice A n c).ownBlock → wpList Try.prog ops Q rest (a.put o.dst (.slice A' (n + m) c')) w') : wpList Try.prog ops Q (o :: rest) a w := by
  subst en
  subst em
  refine wpList_plain hgd fun K hK => ?_
  obtain ⟨A', c', w', r, h2, h3, h4⟩ := run_append_prow w o.type B A c T U C cm h hm hB hr
  have k' := k A' c' w' h2 h3 h4
  unfold Oper.wp execOp
  simp only [ho, resolve, invoke, builtin, Sem.run_bind, Sem.run_pure, Result.andThen_ok, List.map_toArray, List.map_cons, List.map_nil, hs, hx, r]
  exact hK _ _ k'
/-- An append of bytes, as a step of a region that draws. -/
theorem step_append_row (w : World) {ops : Array Oper} {o : Oper} {a : Act} {K : Act → World → Prop} {Q : Exit → Act → World → Prop} {E : Prop} (hgd : o.guard = none) (s x : Operand)
    (ho : o.op = .call { callee := .builtin .append, args := #[s, x], argTypes := #[24, 24] })
    (B : Nat) (A : Option Addr) (c : Nat) (L M : List Int) (C : Option Addr) (n m cm : Nat) (hs : a.eval s = .slice A n c) (hx : a.eval x = .slice C m cm) (en : L.length = n) (em : M.length = m) (h : Row w B A c L) (hm : Bys w C M) (hB : B ≤ w.heap.size) (hr : L.length + M.length ≤ 140737488355328)
    (k : ∀ A' c' w', Row w' B A' c' (L ++ M) → Below B w w' → K (a.put o.dst (.slice A' (n + m) c')) w') : if Region.wanted o (yielded ops a.tmps) = true then Oper.wp Try.prog o a w K Q else E := by
  have hw : Region.wanted o (yielded ops a.tmps) = true := by simp [Region.wanted, hgd]
  rw [if_pos hw]
  subst en
  subst em
  obtain ⟨i, hi, hz0, hz1, hz2⟩ := info_parts info5
  obtain ⟨A', c', w', r, h2, h3⟩ := run_append_lies w 24 o.type 5 i (.int .u8 0) 1 1 Try.underlying24 hi hz0 hz1 hz2 rfl (by decide) B A L.length c (vals L) h C M.length cm (vals M) (by simp [vals_len]) hm.lies vals_one (by unfold maxLen; omega) (by omega) hB
  rw [← vals_append] at h2
  have k' := k A' c' w' (by unfold Row; rw [List.length_append]; exact h2) h3
  unfold Oper.wp execOp
  simp only [ho, resolve, invoke, builtin, Sem.run_bind, Sem.run_pure, Result.andThen_ok, List.map_toArray, List.map_cons, List.map_nil, hs, hx, r]
  exact k'
/-- An append of pairs, as a step of a region that draws. -/
theorem step_append_prow (w : World) {ops : Array Oper} {o : Oper} {a : Act} {K : Act → World → Prop} {Q : Exit → Act → World → Prop} {E : Prop} (hgd : o.guard = none) (s x : Operand)
    (ho : o.op = .call { callee := .builtin .append, args := #[s, x], argTypes := #[22, 22] })
    (B : Nat) (A : Option Addr) (c : Nat) (T U : List Bp) (C : Option Addr) (n m cm : Nat) (hs : a.eval s = .slice A n c) (hx : a.eval x = .slice C m cm) (en : T.length = n) (em : U.length = m) (h : Prow w B A c T) (hm : Lies w C (pvals U)) (hB : B ≤ w.heap.size) (hr : (T.length + U.length) * 48 ≤ 140737488355328)
    (k : ∀ A' c' w', Prow w' B A' c' (T ++ U) → Below B w w' → w.grownBy w' (Value.slice A n c).ownBlock → K (a.put o.dst (.slice A' (n + m) c')) w') : if Region.wanted o (yielded ops a.tmps) = true then Oper.wp Try.prog o a w K Q else E := by
  have hw : Region.wanted o (yielded ops a.tmps) = true := by simp [Region.wanted, hgd]
  rw [if_pos hw]
  subst en
  subst em
  obtain ⟨A', c', w', r, h2, h3, h4⟩ := run_append_prow w o.type B A c T U C cm h hm hB hr
  have k' := k A' c' w' h2 h3 h4
  unfold Oper.wp execOp
  simp only [ho, resolve, invoke, builtin, Sem.run_bind, Sem.run_pure, Result.andThen_ok, List.map_toArray, List.map_cons, List.map_nil, hs, hx, r]
  exact k'

/-- What an append onto a row of pairs lets be: rows of bytes. -/
theorem Row.besideP {w w' : World} {B D : Nat} {A C : Option Addr} {c d : Nat} {L : List Int} {T : List Bp} (h : Row w B A c L) (hs : Prow w D C d T) (hg : w.grownBy w' (Value.slice C T.length d).ownBlock) : Row w' B A c L := by
  refine ⟨h.1, ?_⟩
  rcases h.2 with hn | ⟨g, cap, cur, e1, h1, h2, h3⟩
  · exact .inl hn
  · refine .inr ⟨g, cap, cur, e1, h1, ?_, h3⟩
    have hlt : g < w.heap.size := (Array.getElem?_eq_some_iff.1 h2).1
    rw [hg.block g hlt, h2]
    intro e
    rcases hs.2 with ⟨hn, _⟩ | ⟨g', cap', cur', e', _, h2', _⟩
    · rw [hn] at e
      simp [Value.ownBlock] at e
    · rw [e'] at e
      obtain rfl : g = g' := by simpa [Value.ownBlock] using e
      rw [h2] at h2'
      injection h2' with h2'
      injection h2' with _ h2'
      exact absurd h2' (by decide)

/-- Pairs whose bytes are rows of the call's own. -/
def Mades (w : World) (B : Nat) (l : List Bp) : Prop := ∀ q ∈ l, Row w B q.k.a q.k.c q.k.l ∧ Row w B q.v.a q.v.c q.v.l
theorem Mades.nil (w : World) (B : Nat) : Mades w B [] := fun _ h => by cases h
theorem Mades.kept {w w' : World} {B C : Nat} {l : List Bp} (h : Mades w B l) (hb : Below C w w') (hC : w.heap.size ≤ C) : Mades w' B l := fun q hq => ⟨(h q hq).1.kept hb hC, (h q hq).2.kept hb hC⟩
theorem Mades.mono {w : World} {B C : Nat} {l : List Bp} (h : Mades w B l) (hC : C ≤ B) : Mades w C l := fun q hq => ⟨(h q hq).1.mono hC, (h q hq).2.mono hC⟩
theorem Mades.snoc {w : World} {B : Nat} {l : List Bp} {q : Bp} (h : Mades w B l) (hk : Row w B q.k.a q.k.c q.k.l) (hv : Row w B q.v.a q.v.c q.v.l) : Mades w B (l ++ [q]) := fun x hx => by
  rcases List.mem_append.1 hx with hx | hx
  · exact h x hx
  · rw [List.mem_singleton] at hx
    subst hx
    exact ⟨hk, hv⟩
theorem Mades.besideP {w w' : World} {B D : Nat} {C : Option Addr} {d : Nat} {l T : List Bp} (h : Mades w B l) (hs : Prow w D C d T) (hg : w.grownBy w' (Value.slice C T.length d).ownBlock) : Mades w' B l := fun q hq => ⟨(h q hq).1.besideP hs hg, (h q hq).2.besideP hs hg⟩
/-- Pairs that can be read. -/
def Ins (w : World) (l : List Bp) : Prop := ∀ q ∈ l, In w q.k.a q.k.l q.k.l.length q.k.c ∧ In w q.v.a q.v.l q.v.l.length q.v.c
theorem Ins.nil (w : World) : Ins w [] := fun _ h => by cases h
theorem Ins.kept {w w' : World} {l : List Bp} (h : Ins w l) (hb : Below w.heap.size w w') : Ins w' l := fun q hq => ⟨(h q hq).1.kept hb, (h q hq).2.kept hb⟩
theorem Ins.byt {w : World} {l : List Bp} (h : Ins w l) : ∀ p ∈ rds l, PrB p := fun p hp => by
  obtain ⟨q, hq, rfl⟩ := List.mem_map.1 hp
  exact ⟨(h q hq).1.byt, (h q hq).2.byt⟩
theorem Mades.ins {w : World} {B : Nat} {l : List Bp} (h : Mades w B l) (hB : ∀ p ∈ rds l, PrB p) : Ins w l := fun q hq => ⟨(h q hq).1.in_ (hB _ (List.mem_map_of_mem hq)).1, (h q hq).2.in_ (hB _ (List.mem_map_of_mem hq)).2⟩
theorem ret_slice {A : Option Addr} {n m c : Nat} (h : n = m) : Ending.returned (.slice A n c) = .returned (.slice A m c) := by rw [h]
/-- Copies of pairs, in new memory. -/
def Copied (w : World) (l : List Bp) (e : Ending) (w' : World) : Prop := ∃ l' A c, rds l' = rds l ∧ e = .returned (.slice A l'.length c) ∧ Mades w' w.heap.size l' ∧ Prow w' w.heap.size A c l' ∧ Below w.heap.size w w'
theorem lit_pair (w : World) (kA vA : Option Addr) (kc vc : Nat) (kl vl : List Int) (n m : Nat) (hn : kl.length = n) (hm : vl.length = m) : Lies (w.alloc (.cells #[.slice kA n kc, .slice vA m vc] 42)) (some ⟨w.heap.size, 0, none⟩) (pvals [⟨⟨kA, kc, kl⟩, ⟨vA, vc, vl⟩⟩]) := by
  subst hn
  subst hm
  exact lit_lies w _ _ rfl _

end Go.Proofs.Ytimonpoeieenpaa
