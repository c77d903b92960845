/-
  Memory: entries as they lie, four cells each. Walks: entries compared; whether they may stand; how many have a key; an entry copied. Plain: entries packed are unpacked as they were. Nothing of the program. Plain: the sum of bytes: eight halvings a byte, as a table of any width, what it tells of one byte turned. Nothing of the program. Plain: frames: how a payload is put, read, and read one behind the other; what is turned is told. Nothing of the program. Plain: a table's file: how entries are laid in it, how it is opened, how a block is read. Nothing of the program. Walks: whether an entry may be, how many have a key, how many make a block.
-/
import Derived.Deep.RegionHeld3
import Derived.StillTailTactics
import Derived.Test.YtmgggddnfeojmaaGreatProg
import Derived.Test.YtmgggddnfeojmaaGreatJO00
import Derived.Test.YtmgggddnfeojmaaGreatJO01
import Derived.Test.YtmgggddnfeojmaaGreatJO02
import Derived.Test.YtmgggddnfeojmaaGreatJO05
set_option linter.unusedSimpArgs false
set_option linter.unusedVariables false
namespace Go.Proofs.YtmgggddnfeojmaaGreat
open Go.RowKit
/-- An entry as it lies. -/
structure En where
  k : Sl
  s : Int
  d : Bool
  v : Sl
def En.val (q : En) : Value := .agg #[q.k.val, .int .i64 q.s, .bool q.d, q.v.val]
def En.cells (q : En) : List Value := [q.k.val, .int .i64 q.s, .bool q.d, q.v.val]
/-- What is read of an entry. -/
def En.rd (q : En) : Er := (q.k.l, q.s, q.d, q.v.l)
def ers (l : List En) : List Er := l.map En.rd
theorem ers_len (l : List En) : (ers l).length = l.length := by simp [ers]
theorem ers_append (l m : List En) : ers (l ++ m) = ers l ++ ers m := by simp [ers]
theorem ers_get {l : List En} {j : Nat} {q : En} (h : l[j]? = some q) : (ers l)[j]? = some q.rd := by simp [ers, h]
theorem ers_take (l : List En) (n : Nat) : ers (l.take n) = (ers l).take n := by simp [ers, List.map_take]
theorem ers_drop (l : List En) (n : Nat) : ers (l.drop n) = (ers l).drop n := by simp [ers, List.map_drop]
def evals (l : List En) : List Value := l.flatMap En.cells
theorem evals_len : ∀ l : List En, (evals l).length = l.length * 4
  | [] => rfl
  | q :: l => by
    have := evals_len l
    unfold evals at this ⊢
    rw [List.flatMap_cons, List.length_append, this]
    simp [En.cells]
    omega
theorem evals_append (l m : List En) : evals (l ++ m) = evals l ++ evals m := by simp [evals]
theorem evals_get : ∀ (l : List En) (j : Nat) (q : En), l[j]? = some q → (evals l)[j * 4]? = some q.k.val ∧ (evals l)[j * 4 + 1]? = some (.int .i64 q.s) ∧ (evals l)[j * 4 + 2]? = some (.bool q.d) ∧ (evals l)[j * 4 + 3]? = some q.v.val
  | [], _, _, h => by simp at h
  | p :: l, 0, q, h => by
    simp at h
    subst h
    exact ⟨rfl, rfl, rfl, rfl⟩
  | p :: l, j + 1, q, h => by
    have ih := evals_get l j q (by simpa using h)
    have e : evals (p :: l) = p.k.val :: .int .i64 p.s :: .bool p.d :: p.v.val :: evals l := rfl
    rw [e]
    have e0 : (j + 1) * 4 = j * 4 + 1 + 1 + 1 + 1 := by omega
    rw [e0]
    refine ⟨by simpa using ih.1, ?_, ?_, ?_⟩
    · rw [show j * 4 + 1 + 1 + 1 + 1 + 1 = (j * 4 + 1) + 1 + 1 + 1 + 1 by omega]
      simpa using ih.2.1
    · rw [show j * 4 + 1 + 1 + 1 + 1 + 2 = (j * 4 + 2) + 1 + 1 + 1 + 1 by omega]
      simpa using ih.2.2.1
    · rw [show j * 4 + 1 + 1 + 1 + 1 + 3 = (j * 4 + 3) + 1 + 1 + 1 + 1 by omega]
      simpa using ih.2.2.2
theorem evals_one {l : List En} : ∀ u ∈ evals l, u.oneCell' = true := fun u hu => by
  obtain ⟨q, -, h⟩ := List.mem_flatMap.1 hu
  simp [En.cells] at h
  rcases h with rfl | rfl | rfl | rfl <;> rfl
/-- The cells of one entry, as a walk spells them. -/
def AtE (w : World) (E : Addr) (q : En) : Prop := w.cell? E = some (.slice q.k.a q.k.l.length q.k.c) ∧ w.cell? ⟨E.block, E.off + 1, none⟩ = some (.int .i64 q.s) ∧ w.cell? ⟨E.block, E.off + 2, none⟩ = some (.bool q.d) ∧ w.cell? ⟨E.block, E.off + 3, none⟩ = some (.slice q.v.a q.v.l.length q.v.c)
theorem lies_entry {w : World} {A : Option Addr} {l : List En} {j : Nat} {q : En} (h : Lies w A (evals l)) (hq : l[j]? = some q) : ∃ ad, A = some ad ∧ AtE w (ad.add (j * 4)) q := by
  obtain ⟨h0, h1, h3, h4⟩ := evals_get l j q hq
  rcases h with h | ⟨ad, rfl, h2⟩
  · rw [h] at h0
    simp at h0
  · refine ⟨ad, rfl, ?_, ?_, ?_, ?_⟩
    · simpa [Sl.val] using h2 _ _ h0
    · have := h2 _ _ h1
      rw [← add_add] at this
      simpa [Addr.add, Sl.val] using this
    · have := h2 _ _ h3
      rw [← add_add] at this
      simpa [Addr.add, Sl.val] using this
    · have := h2 _ _ h4
      rw [← add_add] at this
      simpa [Addr.add, Sl.val] using this
theorem lies_entry_at {w : World} {ad : Addr} {l : List En} {j : Nat} {q : En} (h : Lies w (some ad) (evals l)) (hq : l[j]? = some q) : AtE w (ad.add (j * 4)) q := by
  obtain ⟨ad', e, h'⟩ := lies_entry h hq
  injection e with e
  subst e
  exact h'
/-- A part of a row of entries, as a slice of it lies. -/
theorem lies_part {w : World} {A : Option Addr} {l : List En} (h : Lies w A (evals l)) (i k m : Nat) (hm : l.length ≤ m) : Lies w (if m = i then A else A.map (·.add (i * 4))) (evals ((l.drop i).take k)) := by
  rcases h with h | ⟨ad, rfl, h2⟩
  · have hl : l = [] := by
      have := congrArg List.length h
      rw [evals_len] at this
      exact List.eq_nil_of_length_eq_zero (by simp at this; omega)
    subst hl
    left
    simp [evals]
  · by_cases hi : l.length ≤ i
    · left
      rw [List.drop_of_length_le hi]
      simp [evals]
    · rw [if_neg (by omega)]
      refine .inr ⟨ad.add (i * 4), rfl, fun j u hu => ?_⟩
      have e : evals ((l.drop i).take k) = ((evals l).drop (i * 4)).take (k * 4) := by
        have e3 : ∀ (x : En) (m : List En), evals (x :: m) = x.k.val :: .int .i64 x.s :: .bool x.d :: x.v.val :: evals m := fun _ _ => rfl
        have e1 : ∀ (l : List En) (i : Nat), evals (l.drop i) = (evals l).drop (i * 4) := fun l => by
          induction l with
          | nil => intro i; simp [evals]
          | cons x l ih =>
            intro i
            cases i with
            | zero => simp
            | succ i =>
              rw [List.drop_succ_cons, ih, e3, show (i + 1) * 4 = i * 4 + 1 + 1 + 1 + 1 by omega]
              rfl
        have e2 : ∀ (l : List En) (k : Nat), evals (l.take k) = (evals l).take (k * 4) := fun l => by
          induction l with
          | nil => intro k; simp [evals]
          | cons x l ih =>
            intro k
            cases k with
            | zero => simp [evals]
            | succ k =>
              rw [List.take_succ_cons, e3, e3, ih, show (k + 1) * 4 = k * 4 + 1 + 1 + 1 + 1 by omega]
              rfl
        rw [e2, e1]
      rw [e, List.getElem?_take] at hu
      split at hu
      · rw [List.getElem?_drop] at hu
        rw [add_add]
        exact h2 _ _ hu
      · cases hu
theorem info48 : (Tryz.prog.info? 48).map (fun i => (i.zero, i.size, i.bytes)) = some (some (.agg #[.slice none 0 0, .int .i64 0, .bool false, .slice none 0 0]), 4, 64) := by kernel_rfl
/-- A row of entries of the call's own, or nil. -/
def Erow (w : World) (B : Nat) (A : Option Addr) (c : Nat) (l : List En) : Prop := w.ownsRow B 48 4 (.slice A l.length c) l.length (evals l)
theorem Erow.nil (w : World) (B : Nat) : Erow w B none 0 [] := World.ownsRow_nil w B _ _
theorem Erow.lies {w : World} {B : Nat} {A : Option Addr} {c : Nat} {l : List En} (h : Erow w B A c l) : Lies w A (evals l) := by
  rcases h.2 with ⟨_, h⟩ | ⟨g, cap, cur, e, _⟩
  · exact .inl (by rw [List.eq_nil_of_length_eq_zero h]; rfl)
  · injection e with e1 e2 e3
    subst e1
    exact .inr ⟨_, rfl, fun j u hu => World.ownsRow.cells h (g := g) rfl j u hu⟩
theorem Erow.kept {w w' : World} {B C : Nat} {A : Option Addr} {c : Nat} {l : List En} (h : Erow w B A c l) (hb : Below C w w') (hC : w.heap.size ≤ C) : Erow w' B A c l := own_kept h hb hC
theorem Erow.mono {w : World} {B C : Nat} {A : Option Addr} {c : Nat} {l : List En} (h : Erow w B A c l) (hC : C ≤ B) : Erow w C A c l := own_mono h hC
theorem Erow.alloc {w : World} {B : Nat} {A : Option Addr} {c : Nat} {l : List En} (h : Erow w B A c l) (o : Obj) : Erow (w.alloc o) B A c l := h.kept (below_new w o) (Nat.le_refl _)
theorem run_append_erow (w : World) (ty : TypeId) (B : Nat) (A : Option Addr) (c : Nat) (T U : List En) (C : Option Addr) (cm : Nat) (h : Erow w B A c T) (hm : Lies w C (evals U)) (hB : B ≤ w.heap.size) (hr : (T.length + U.length) * 64 ≤ 140737488355328) :
    ∃ A' c' w', (Builtin.append_ #[22, 22] ty #[.slice A T.length c, .slice C U.length cm]).run Tryz.prog w = .ok (.slice A' (T.length + U.length) c') w' ∧ Erow w' B A' c' (T ++ U) ∧ Below B w w' ∧ w.grownBy w' (Value.slice A T.length c).ownBlock := by
  obtain ⟨i, hi, hz0, hz1, hz2⟩ := info_parts info48
  obtain ⟨A', c', w', r, h2, h3, h4⟩ := run_append_grown (P := Tryz.prog) w 22 ty 48 i (.agg #[.slice none 0 0, .int .i64 0, .bool false, .slice none 0 0]) 4 64 Tryz.underlying22 hi hz0 hz1 hz2 rfl (by decide) B A T.length c (evals T) h C U.length cm (evals U) (by rw [evals_len]) hm evals_one (by unfold maxLen; omega) hr hB
  rw [← evals_append] at h2
  exact ⟨A', c', w', r, by unfold Erow; rw [List.length_append]; exact h2, h3, h4⟩
theorem wpList_append_erow (w : World) {ops : Array Oper} {rest : List Oper} {o : Oper} {a : Act} {Q : Exit → Act → World → Prop} (hgd : o.guard = none) (s x : Operand)
    (ho : o.op = .call { callee := .builtin .append, args := #[s, x], argTypes := #[22, 22] })
    (B : Nat) (A : Option Addr) (c : Nat) (T U : List En) (C : Option Addr) (n m cm : Nat) (hs : a.eval s = .slice A n c) (hx : a.eval x = .slice C m cm) (en : T.length = n) (em : U.length = m) (h : Erow w B A c T) (hm : Lies w C (evals U)) (hB : B ≤ w.heap.size) (hr : (T.length + U.length) * 64 ≤ 140737488355328)
    (k : ∀ A' c' w', Erow w' B A' c' (T ++ U) → Below B w w' → w.grownBy w' (Value.slice A n c).ownBlock → wpList Tryz.prog ops Q rest (a.put o.dst (.slice A' (n + m) c')) w') : wpList Tryz.prog ops Q (o :: rest) a w := by
  subst en
  subst em
  refine wpList_plain hgd fun K hK => ?_
  obtain ⟨A', c', w', r, h2, h3, h4⟩ := run_append_erow w o.type B A c T U C cm h hm hB hr
  have k' := k A' c' w' h2 h3 h4
  unfold Oper.wp execOp
  simp only [ho, resolve, invoke, builtin, Sem.run_bind, Sem.run_pure, Result.andThen_ok, List.map_toArray, List.map_cons, List.map_nil, hs, hx, r]
  exact hK _ _ k'
/-- An append of entries, as a step of a region that draws. -/
theorem step_append_erow (w : World) {ops : Array Oper} {o : Oper} {a : Act} {K : Act → World → Prop} {Q : Exit → Act → World → Prop} {E : Prop} (hgd : o.guard = none) (s x : Operand)
    (ho : o.op = .call { callee := .builtin .append, args := #[s, x], argTypes := #[22, 22] })
    (B : Nat) (A : Option Addr) (c : Nat) (T U : List En) (C : Option Addr) (n m cm : Nat) (hs : a.eval s = .slice A n c) (hx : a.eval x = .slice C m cm) (en : T.length = n) (em : U.length = m) (h : Erow w B A c T) (hm : Lies w C (evals U)) (hB : B ≤ w.heap.size) (hr : (T.length + U.length) * 64 ≤ 140737488355328)
    (k : ∀ A' c' w', Erow w' B A' c' (T ++ U) → Below B w w' → w.grownBy w' (Value.slice A n c).ownBlock → K (a.put o.dst (.slice A' (n + m) c')) w') : if Region.wanted o (yielded ops a.tmps) = true then Oper.wp Tryz.prog o a w K Q else E := by
  have hw : Region.wanted o (yielded ops a.tmps) = true := by simp [Region.wanted, hgd]
  rw [if_pos hw]
  subst en
  subst em
  obtain ⟨A', c', w', r, h2, h3, h4⟩ := run_append_erow w o.type B A c T U C cm h hm hB hr
  have k' := k A' c' w' h2 h3 h4
  unfold Oper.wp execOp
  simp only [ho, resolve, invoke, builtin, Sem.run_bind, Sem.run_pure, Result.andThen_ok, List.map_toArray, List.map_cons, List.map_nil, hs, hx, r]
  exact k'
/-- What an append onto a row of entries lets be: rows of bytes. -/
theorem Row.besideE {w w' : World} {B D : Nat} {A C : Option Addr} {c d : Nat} {L : List Int} {T : List En} (h : Row w B A c L) (hs : Erow w D C d T) (hg : w.grownBy w' (Value.slice C T.length d).ownBlock) : Row w' B A c L := by
  refine ⟨h.1, ?_⟩
  rcases h.2 with hn | ⟨g, cap, cur, e1, h1, h2, h3⟩
  · exact .inl hn
  · refine .inr ⟨g, cap, cur, e1, h1, ?_, h3⟩
    have hlt : g < w.heap.size := (Array.getElem?_eq_some_iff.1 h2).1
    rw [hg.block g hlt, h2]
    intro e
    rcases hs.2 with ⟨hn, _⟩ | ⟨g', cap', cur', e', _, h2', _⟩
    · rw [hn] at e
      simp [Value.ownBlock] at e
    · rw [e'] at e
      obtain rfl : g = g' := by simpa [Value.ownBlock] using e
      rw [h2] at h2'
      injection h2' with h2'
      injection h2' with _ h2'
      exact absurd h2' (by decide)
/-- Pairs whose bytes are rows of the call's own. -/
def EMades (w : World) (B : Nat) (l : List En) : Prop := ∀ q ∈ l, Row w B q.k.a q.k.c q.k.l ∧ Row w B q.v.a q.v.c q.v.l
theorem EMades.nil (w : World) (B : Nat) : EMades w B [] := fun _ h => by cases h
theorem EMades.kept {w w' : World} {B C : Nat} {l : List En} (h : EMades w B l) (hb : Below C w w') (hC : w.heap.size ≤ C) : EMades w' B l := fun q hq => ⟨(h q hq).1.kept hb hC, (h q hq).2.kept hb hC⟩
theorem EMades.mono {w : World} {B C : Nat} {l : List En} (h : EMades w B l) (hC : C ≤ B) : EMades w C l := fun q hq => ⟨(h q hq).1.mono hC, (h q hq).2.mono hC⟩
theorem EMades.snoc {w : World} {B : Nat} {l : List En} {q : En} (h : EMades w B l) (hk : Row w B q.k.a q.k.c q.k.l) (hv : Row w B q.v.a q.v.c q.v.l) : EMades w B (l ++ [q]) := fun x hx => by
  rcases List.mem_append.1 hx with hx | hx
  · exact h x hx
  · rw [List.mem_singleton] at hx
    subst hx
    exact ⟨hk, hv⟩
theorem EMades.besideE {w w' : World} {B D : Nat} {C : Option Addr} {d : Nat} {l T : List En} (h : EMades w B l) (hs : Erow w D C d T) (hg : w.grownBy w' (Value.slice C T.length d).ownBlock) : EMades w' B l := fun q hq => ⟨(h q hq).1.besideE hs hg, (h q hq).2.besideE hs hg⟩
/-- Pairs that can be read. -/
def EIns (w : World) (l : List En) : Prop := ∀ q ∈ l, In w q.k.a q.k.l q.k.l.length q.k.c ∧ In w q.v.a q.v.l q.v.l.length q.v.c
theorem EIns.nil (w : World) : EIns w [] := fun _ h => by cases h
theorem EIns.kept {w w' : World} {l : List En} (h : EIns w l) (hb : Below w.heap.size w w') : EIns w' l := fun q hq => ⟨(h q hq).1.kept hb, (h q hq).2.kept hb⟩
def ErB (p : Er) : Prop := Byt p.1 ∧ Byt p.2.2.2
theorem EIns.byt {w : World} {l : List En} (h : EIns w l) : ∀ p ∈ ers l, ErB p := fun p hp => by
  obtain ⟨q, hq, rfl⟩ := List.mem_map.1 hp
  exact ⟨(h q hq).1.byt, (h q hq).2.byt⟩
theorem EMades.ins {w : World} {B : Nat} {l : List En} (h : EMades w B l) (hB : ∀ p ∈ ers l, ErB p) : EIns w l := fun q hq => ⟨(h q hq).1.in_ (hB _ (List.mem_map_of_mem hq)).1, (h q hq).2.in_ (hB _ (List.mem_map_of_mem hq)).2⟩
/-- Copies of entries, in new memory. -/
def ECopied (w : World) (l : List En) (e : Ending) (w' : World) : Prop := ∃ l' A c, ers l' = ers l ∧ e = .returned (.slice A l'.length c) ∧ EMades w' w.heap.size l' ∧ Erow w' w.heap.size A c l' ∧ Below w.heap.size w w'
theorem lit_entry (w : World) (kA vA : Option Addr) (kc vc : Nat) (kl vl : List Int) (s : Int) (d : Bool) (n m : Nat) (hn : kl.length = n) (hm : vl.length = m) : Lies (w.alloc (.cells #[.slice kA n kc, .int .i64 s, .bool d, .slice vA m vc] 48)) (some ⟨w.heap.size, 0, none⟩) (evals [⟨⟨kA, kc, kl⟩, s, d, ⟨vA, vc, vl⟩⟩]) := by
  subst hn
  subst hm
  exact lit_lies w _ _ rfl _
end Go.Proofs.YtmgggddnfeojmaaGreat
namespace Go.Proofs.YtmgggddnfeojmaaGreat
open Go.RowKit
theorem lit_at (w : World) (cs : Array Value) (t : TypeId) (j : Nat) : (w.alloc (.cells cs t)).cell? ⟨w.heap.size, j, none⟩ = cs[j]? := by
  have h := heap_alloc_new w (.cells cs t)
  unfold World.cell?
  simp only
  rw [h]
  simp
theorem isNaN_any (x : Int) (w : World) : Calls Tryz.prog 97 #[.int .i64 x] w fun e w' => e = .returned (.bool false) ∧ w' = w := by
  go_enter Tryz.func97, Tryz.ntmps97
  go_wp2_with fail
  go_ret
  exact ⟨by simp, rfl⟩
def cmpI (x y : Int) : Int := if x < y then -1 else if y < x then 1 else 0
theorem compareI_any (x y : Int) (w : World) : Calls Tryz.prog 79 #[.int .i64 x, .int .i64 y] w fun e w' => e = .returned (.int .i64 (cmpI x y)) ∧ w' = w := by
  rcases Int.lt_trichotomy x y with h | h | h
  · have e : cmpI x y = -1 := by unfold cmpI; rw [if_pos h]
    rw [e]
    go_enter Tryz.func79, Tryz.ntmps79
    go_wp2_with (go_at_call 97; refine (isNaN_any _ _).mono ?_; rintro e w' ⟨rfl, rfl⟩)
    go_ret
    exact ⟨rfl, rfl⟩
  · subst h
    have e : cmpI x x = 0 := by unfold cmpI; rw [if_neg (by omega), if_neg (by omega)]
    have h1 : ¬ x < x := by omega
    rw [e]
    go_enter Tryz.func79, Tryz.ntmps79
    go_wp2_with (go_at_call 97; refine (isNaN_any _ _).mono ?_; rintro e w' ⟨rfl, rfl⟩)
    go_ret
    exact ⟨rfl, rfl⟩
  · have e : cmpI x y = 1 := by unfold cmpI; rw [if_neg (by omega), if_pos h]
    have h1 : ¬ x < y := by omega
    rw [e]
    go_enter Tryz.func79, Tryz.ntmps79
    go_wp2_with (go_at_call 97; refine (isNaN_any _ _).mono ?_; rintro e w' ⟨rfl, rfl⟩)
    go_ret
    exact ⟨rfl, rfl⟩
theorem orI_any (g : Nat) (x y : Int) (w : World) (h0 : w.cell? ⟨g, 0, none⟩ = some (.int .i64 x)) (h1 : w.cell? ⟨g, 1, none⟩ = some (.int .i64 y)) : Calls Tryz.prog 78 #[.slice (some ⟨g, 0, none⟩) 2 2] w fun e w' => e = .returned (.int .i64 (if x ≠ 0 then x else y)) ∧ w' = w := by
  by_cases hx : x = 0
  · by_cases hy : y = 0
    · subst hx hy
      go_enter Tryz.func78, Tryz.ntmps78
      go_wp2_with fail
      go_loopw [8] (fun t8 wr => ∃ k : Nat, k ≤ 2 ∧ t8 = .int .i64 k ∧ wr = w) (fun t8 _ => 2 - (intOf t8).toNat)
      case atStart => exact ⟨0, by omega, rfl, rfl⟩
      case round =>
        obtain ⟨k, hk, rfl, rfl⟩ := hrel
        rcases (by omega : k = 0 ∨ k = 1 ∨ k = 2) with rfl | rfl | rfl
        · go_wp2_with fail
          go_roundw
          case rel => exact ⟨1, by omega, by go_num, by first | rfl | trivial⟩
          case measure => simp [intOf]
        · go_wp2_with fail
          go_roundw
          case rel => exact ⟨2, by omega, by go_num, by first | rfl | trivial⟩
          case measure => simp [intOf]
        · go_wp2_with fail
          go_ret
          exact ⟨by simp, rfl⟩
    · have hy' : (y != 0) = true := by simpa using hy
      subst hx
      go_enter Tryz.func78, Tryz.ntmps78
      go_wp2_with fail
      go_loopw [8] (fun t8 wr => ∃ k : Nat, k ≤ 1 ∧ t8 = .int .i64 k ∧ wr = w) (fun t8 _ => 2 - (intOf t8).toNat)
      case atStart => exact ⟨0, by omega, rfl, rfl⟩
      case round =>
        obtain ⟨k, hk, rfl, rfl⟩ := hrel
        rcases (by omega : k = 0 ∨ k = 1) with rfl | rfl
        · go_wp2_with fail
          go_roundw
          case rel => exact ⟨1, by omega, by go_num, by first | rfl | trivial⟩
          case measure => simp [intOf]
        · go_wp2_with fail
          go_ret
          exact ⟨by simp, rfl⟩
  · have hx' : (x != 0) = true := by simpa using hx
    go_enter Tryz.func78, Tryz.ntmps78
    go_wp2_with fail
    go_loopw [8] (fun t8 wr => t8 = .int .i64 0 ∧ wr = w) (fun _ _ => 1)
    case atStart => exact ⟨rfl, rfl⟩
    case round =>
      obtain ⟨rfl, rfl⟩ := hrel
      go_wp2_with fail
      go_ret
      exact ⟨by simp [hx], rfl⟩
theorem ordE_or (x y : Er) : ordE x y = if cmpL x.1 y.1 ≠ 0 then cmpL x.1 y.1 else cmpI y.2.1 x.2.1 := rfl
/-- An entry that can be read. -/
def EIn (w : World) (q : En) : Prop := In w q.k.a q.k.l q.k.l.length q.k.c ∧ In w q.v.a q.v.l q.v.l.length q.v.c
theorem EIn.kept {w w' : World} {q : En} (h : EIn w q) (hb : Below w.heap.size w w') : EIn w' q := ⟨h.1.kept hb, h.2.kept hb⟩
theorem En.val_eq (q : En) : q.val = .agg #[.slice q.k.a q.k.l.length q.k.c, .int .i64 q.s, .bool q.d, .slice q.v.a q.v.l.length q.v.c] := rfl
set_option maxRecDepth 100000 in
set_option maxHeartbeats 4000000 in
theorem order_any (x y : En) (w : World) (hx : EIn w x) (hy : EIn w y) : Calls Tryz.prog 56 #[x.val, y.val] w fun e w' => e = .returned (.int .i64 (ordE x.rd y.rd)) ∧ Below w.heap.size w w' := by
  have HE : Hid (ordE x.rd y.rd = if cmpL x.k.l y.k.l ≠ 0 then cmpL x.k.l y.k.l else cmpI y.s x.s) := Lib.hid (ordE_or x.rd y.rd)
  have HX := Lib.hid (fun (W : World) (hb : Below w.heap.size w W) => (hx.kept hb).1)
  have HY := Lib.hid (fun (W : World) (hb : Below w.heap.size w W) => (hy.kept hb).1)
  rw [En.val_eq, En.val_eq]
  generalize ordE x.rd y.rd = o at HE
  obtain ⟨⟨xa, xc, xk⟩, xs, xd, ⟨xva, xvc, xv⟩⟩ := x
  obtain ⟨⟨ya, yc, yk⟩, ys, yd, ⟨yva, yvc, yv⟩⟩ := y
  simp only at HE HX HY
  clear hx hy
  obtain ⟨n, hn⟩ : ∃ n, xk.length = n := ⟨_, rfl⟩
  obtain ⟨m, hm⟩ : ∃ m, yk.length = m := ⟨_, rfl⟩
  obtain ⟨nv, hnv⟩ : ∃ n, xv.length = n := ⟨_, rfl⟩
  obtain ⟨mv, hmv⟩ : ∃ m, yv.length = m := ⟨_, rfl⟩
  simp only [hn, hm, hnv, hmv] at HX HY ⊢
  clear hn hm hnv hmv
  go_enter Tryz.func56, Tryz.ntmps56
  go_upto_region 1 with fail
  obtain ⟨w2, hw2⟩ : ∃ w2, ((w.alloc (.cells #[.slice xa n xc, .int .i64 xs, .bool xd, .slice xva nv xvc] 48)).alloc (.cells #[.slice ya m yc, .int .i64 ys, .bool yd, .slice yva mv yvc] 48)) = w2 := ⟨_, rfl⟩
  have B2 : Hid (Below w.heap.size w w2) := Lib.hid (hw2 ▸ (below_new _ _).alloc (by simp) _)
  have HK : Hid (∀ W : World, Below w2.heap.size w2 W → (W.cell? ⟨w.heap.size, 0, none⟩ = some (.slice xa n xc) ∧ W.cell? ⟨w.heap.size, 1, none⟩ = some (.int .i64 xs)) ∧ W.cell? ⟨w.heap.size + 1, 0, none⟩ = some (.slice ya m yc) ∧ W.cell? ⟨w.heap.size + 1, 1, none⟩ = some (.int .i64 ys)) := Lib.hid (fun W hb => by
    have e0 : w2.heap[w.heap.size]? = some (.cells #[.slice xa n xc, .int .i64 xs, .bool xd, .slice xva nv xvc] 48 (0, 0)) := by
      rw [← hw2, RowKit.Below.heap_alloc _ _ _ (by simp)]
      exact heap_alloc_new w _
    have e1 : w2.heap[w.heap.size + 1]? = some (.cells #[.slice ya m yc, .int .i64 ys, .bool yd, .slice yva mv yvc] 48 (0, 0)) := by
      have := heap_alloc_new (w.alloc (.cells #[.slice xa n xc, .int .i64 xs, .bool xd, .slice xva nv xvc] 48)) (.cells #[.slice ya m yc, .int .i64 ys, .bool yd, .slice yva mv yvc] 48)
      rwa [hw2, show (w.alloc (.cells #[.slice xa n xc, .int .i64 xs, .bool xd, .slice xva nv xvc] 48)).heap.size = w.heap.size + 1 by simp] at this
    have hz : w2.heap.size = w.heap.size + 2 := by rw [← hw2]; simp
    have k0 := (hb.block w.heap.size (by omega)).trans e0
    have k1 := (hb.block (w.heap.size + 1) (by omega)).trans e1
    refine ⟨⟨?_, ?_⟩, ?_, ?_⟩ <;> simp [World.cell?, k0, k1])
  have CB := Lib.hid (Below.refl w2.heap.size w2)
  rw [hw2]
  clear hw2
  go_region_held3 (fun W => (W.cell? ⟨w.heap.size, 0, none⟩ = some (.slice xa n xc) ∧ W.cell? ⟨w.heap.size, 1, none⟩ = some (.int .i64 xs)) ∧ W.cell? ⟨w.heap.size + 1, 0, none⟩ = some (.slice ya m yc) ∧ W.cell? ⟨w.heap.size + 1, 1, none⟩ = some (.int .i64 ys)) (first | exact HK.out _ (by repeat (first | exact Below.refl _ _ | exact CB.out | refine Below.drew ?_ | refine Below.alloc ?_ (by first | exact Nat.le_refl _ | simp) _)) | go_keep) (first
    | (go_at_call 77; refine (compare_any _ _ xk yk _ _ _ _ _ (HX.out _ ?_) (HY.out _ ?_)).mono ?_; (exact B2.out.trans ((by repeat (first | exact Below.refl _ _ | refine Below.drew ?_) : Below w2.heap.size w2 _).mono B2.out.size)); (exact B2.out.trans ((by repeat (first | exact Below.refl _ _ | refine Below.drew ?_) : Below w2.heap.size w2 _).mono B2.out.size)); rintro e w3 ⟨rfl, rfl⟩)
    | (go_at_call 79; refine (compareI_any _ _ _).mono ?_; rintro e w4 ⟨rfl, rfl⟩)
    | (go_at_call 78; refine (orI_any _ (cmpL xk yk) (cmpI ys xs) _ (lit_at _ _ _ 0) (lit_at _ _ _ 1)).mono ?_; rw [← HE.out]; rintro e w5 ⟨rfl, rfl⟩))
  all_goals
    go_wp2_with fail
    go_ret
    exact ⟨rfl, B2.out.trans ((by repeat (first | exact Below.refl _ _ | refine Below.drew ?_ | refine Below.alloc ?_ (by first | exact Nat.le_refl _ | simp) _) : Below w2.heap.size w2 _).mono B2.out.size)⟩
end Go.Proofs.YtmgggddnfeojmaaGreat
namespace Go.Proofs.YtmgggddnfeojmaaGreat
theorem headE_bd {e : Er} (h : GoodE e) : 0 ≤ headE e ∧ headE e ≤ 18446744073709551615 ∧ headE e / 2 = e.2.1 ∧ decide (headE e % 2 = 1) = e.2.2.1 := by
  obtain ⟨-, ⟨h1, h2⟩, -⟩ := h
  unfold headE
  cases e.2.2.1
  · simp only [Bool.false_eq_true, if_false, decide_eq_false_iff_not]
    refine ⟨by omega, by omega, by omega, by omega⟩
  · simp only [if_true, decide_eq_true_eq]
    refine ⟨by omega, by omega, by omega, by omega⟩
/-- Bytes that were appended with their length are read back under a greater bound too. -/
theorem bytesP_most (B X R : List Int) (most : Int) (h1 : (X.length : Int) ≤ 18446744073709551615) (h2 : (X.length : Int) ≤ most) : bytesP (B ++ (digs X.length ++ (X ++ R))) B.length most = (X, (B.length : Int) + (digs X.length).length + X.length, 0) := by
  have h := uintP_back B (X ++ R) X.length (by omega) h1
  unfold bytesP
  rw [h]
  simp only [ne_eq, not_true_eq_false, if_false]
  rw [if_neg (by omega), if_neg (by simp only [List.length_append]; omega)]
  refine Prod.ext ?_ rfl
  simp only
  rw [show ((B.length : Int) + ((digs (X.length : Int)).length : Int)).toNat = (B ++ digs X.length).length by rw [List.length_append]; omega, ← List.append_assoc, List.drop_left, Int.toNat_natCast, List.take_left]
theorem verE_byt {e : Er} (h : GoodE e) (hB : Byt e.2.2.2) : Byt (verE e) := by
  have := headE_bd h
  have := h.2.2.1
  exact (digs_byt _ (by omega) (by omega)).append ((digs_byt _ (by omega) (by omega)).append hB)
theorem verP_back (B R : List Int) (e : Er) (h : GoodE e) : verP (B ++ (verE e ++ R)) B.length = (e.2, ((B ++ verE e).length : Int), 0) := by
  obtain ⟨h0, h1, h2, h3⟩ := headE_bd h
  have h4 := h.2.2.1
  have e1 : B ++ (verE e ++ R) = B ++ (digs (headE e) ++ (digs e.2.2.2.length ++ (e.2.2.2 ++ R))) := by unfold verE; simp only [List.append_assoc]
  have e2 : B ++ (verE e ++ R) = (B ++ digs (headE e)) ++ (digs e.2.2.2.length ++ (e.2.2.2 ++ R)) := by rw [e1, List.append_assoc]
  have k1 := uintP_back B (digs e.2.2.2.length ++ (e.2.2.2 ++ R)) (headE e) h0 h1
  rw [← e1] at k1
  have k2 := bytesP_most (B ++ digs (headE e)) e.2.2.2 R 4096 (by omega) (by omega)
  rw [← e2] at k2
  have e3 : ((B ++ digs (headE e)).length : Int) = (B.length : Int) + ((digs (headE e)).length : Int) := by rw [List.length_append]; omega
  rw [e3] at k2
  unfold verP
  rw [k1]
  simp only [ne_eq, not_true_eq_false, if_false]
  rw [k2, h2, h3]
  refine Prod.ext rfl (Prod.ext ?_ rfl)
  unfold verE
  simp only [List.length_append]
  omega
theorem versP_back (k : List Int) : ∀ (l : List Er) (B R : List Int) (acc : List Er), (∀ e ∈ l, GoodE e ∧ e.1 = k) → versP (B ++ (versE l ++ R)) k l.length B.length acc = some (acc ++ l, ((B ++ versE l).length : Int))
  | [], B, R, acc, _ => by simp [versP, versE]
  | e :: l, B, R, acc, h => by
    obtain ⟨h1, h2⟩ := h e (by simp)
    have e1 : B ++ (versE (e :: l) ++ R) = B ++ (verE e ++ (versE l ++ R)) := by simp [versE]
    have e2 : B ++ (versE (e :: l) ++ R) = (B ++ verE e) ++ (versE l ++ R) := by rw [e1, List.append_assoc]
    have k1 := verP_back B (versE l ++ R) e h1
    rw [← e1] at k1
    have ih := versP_back k l (B ++ verE e) R (acc ++ [e]) (fun x hx => h x (by simp [hx]))
    rw [← e2] at ih
    rw [List.length_cons]
    unfold versP
    rw [k1]
    simp only [ne_eq, not_true_eq_false, if_false]
    have e9 : ((k, e.2) : Er) = e := by rw [← h2]
    rw [e9, ih]
    simp [versE]
/-- The keys of entries in order rise. -/
theorem pairsE_nil : pairsE [] = [] := rfl
theorem drop_run_head {e : Er} {l : List Er} {x : Er} {m : List Er} (h : OrdL (e :: l)) (hd : (e :: l).drop (runN e.1 (e :: l)) = x :: m) : cmpL x.1 e.1 = 1 := by
  have h1 := runN_pos (e := e) (l := l)
  have hx : (e :: l)[runN e.1 (e :: l)]? = some x := by
    have : ((e :: l).drop (runN e.1 (e :: l)))[0]? = some x := by rw [hd]; rfl
    rwa [List.getElem?_drop, Nat.add_zero] at this
  have hs := ordL_sorted h (i := 0) (j := runN e.1 (e :: l)) (by omega) rfl hx
  have hne := runN_next e.1 (e :: l) x hx
  rw [ordE_lt] at hs
  rcases hs with hs | ⟨hs, -⟩
  · have := cmpL_flip e.1 x.1
    omega
  · exact absurd hs.symm hne
theorem pairs_rise : ∀ (f : Nat) (l : List Er) (a : List Int), l.length ≤ f → OrdL l → (∀ x m, l = x :: m → cmpL x.1 a = 1) → risesP a (pairsE l)
  | _, [], _, _, _, _ => trivial
  | 0, e :: l, _, h, _, _ => by simp at h
  | f + 1, e :: l, a, hf, h, ha => by
    have h1 := runN_pos (e := e) (l := l)
    rw [pairsE_cons]
    refine ⟨ha e l rfl, pairs_rise f _ e.1 (by rw [List.length_drop]; simp only [List.length_cons] at hf ⊢; omega) (h.drop _) (fun x m hd => drop_run_head h hd)⟩
theorem cmpL_pos {k : List Int} (h : 1 ≤ k.length) : cmpL k [] = 1 := by
  cases k with
  | nil => simp at h
  | cons x k => rfl
theorem pairs_rises {l : List Er} (h : OrdL l) : risesP [] (pairsE l) := pairs_rise l.length l [] (Nat.le_refl _) h (fun x m e => cmpL_pos (h.good x (by rw [e]; simp)).1.1)
set_option maxRecDepth 100000 in
theorem pairs_short : ∀ (f : Nat) (l : List Er), l.length ≤ f → (∀ e ∈ l, GoodE e) → l.length ≤ 18446744073709551615 → (pairsE l).length ≤ l.length ∧ ∀ p ∈ pairsE l, ShortP p
  | _, [], _, _, _ => ⟨Nat.le_refl _, fun p hp => by cases hp⟩
  | 0, e :: l, h, _, _ => by simp at h
  | f + 1, e :: l, hf, h, hb => by
    have h1 := runN_pos (e := e) (l := l)
    have h2 := runN_le e.1 (e :: l)
    have ih := pairs_short f ((e :: l).drop (runN e.1 (e :: l))) (by rw [List.length_drop]; simp only [List.length_cons] at hf ⊢; omega) (fun x hx => h x (List.mem_of_mem_drop hx)) (by rw [List.length_drop]; omega)
    rw [List.length_drop] at ih
    rw [pairsE_cons]
    refine ⟨by simp only [List.length_cons] at ih ⊢; omega, fun p hp => ?_⟩
    rcases List.mem_cons.1 hp with rfl | hp
    · refine ⟨(h e (by simp)).1.2, ?_⟩
      have := digs_len ((runN e.1 (e :: l) : Nat) : Int)
      show (digs _).length ≤ 4096
      omega
    · exact ih.2 p hp
theorem pairs_fit {l : List Er} (h : OrdL l) (hl : l.length ≤ 4096) : FitP (pairsE l) := by
  have := pairs_short l.length l (Nat.le_refl _) h.good (by omega)
  exact ⟨by omega, this.2⟩
theorem unpF_back : ∀ (f : Nat) (l : List Er) (B : List Int) (acc : List Er), l.length ≤ f → l.length ≤ 4096 → OrdL (acc ++ l) → unpF (B ++ versE l) (pairsE l) B.length acc = some (acc ++ l)
  | _, [], B, acc, _, _, h => by
    rw [pairsE_nil]
    unfold unpF
    rw [if_pos ⟨by simp [versE], by simpa using h⟩]
    simp
  | 0, e :: l, _, _, h, _, _ => by simp at h
  | f + 1, e :: l, B, acc, hf, hl, h => by
    have h1 := runN_pos (e := e) (l := l)
    have h2 := runN_le e.1 (e :: l)
    obtain ⟨n, hn⟩ : ∃ n, runN e.1 (e :: l) = n := ⟨_, rfl⟩
    have hk := runN_key e.1 (e :: l)
    rw [pairsE_cons, hn]
    rw [hn] at h1 h2 hk
    obtain ⟨T, hT⟩ : ∃ T, (e :: l).take n = T := ⟨_, rfl⟩
    obtain ⟨D, hD⟩ : ∃ D, (e :: l).drop n = D := ⟨_, rfl⟩
    have eTD : e :: l = T ++ D := by rw [← hT, ← hD, List.take_append_drop]
    have hTn : T.length = n := by rw [← hT, List.length_take]; omega
    rw [hD]
    rw [hT] at hk
    have hu := uintP_back [] [] (n : Int) (by omega) (by simp only [List.length_cons] at h2 hl; omega)
    simp only [List.nil_append, List.append_nil, List.length_nil] at hu
    have hg := h.good
    have k1 := versP_back e.1 T B (versE D) acc (fun x hx => ⟨hg x (by rw [eTD]; simp [hx]), hk x hx⟩)
    have e1 : B ++ versE (e :: l) = B ++ (versE T ++ versE D) := by rw [eTD, versE_append]
    have e2 : B ++ versE (e :: l) = (B ++ versE T) ++ versE D := by rw [e1, List.append_assoc]
    rw [← e1, hTn] at k1
    have hlen := congrArg List.length eTD
    rw [List.length_append, hTn] at hlen
    simp only [List.length_cons] at hlen hf
    have ih := unpF_back f D (B ++ versE T) (acc ++ T) (by omega) (by simp only [List.length_cons] at hl; omega) (by rw [List.append_assoc, ← eTD]; exact h)
    rw [← e2] at ih
    unfold unpF
    rw [show ((0 : Int)) = ((0 : Nat) : Int) from rfl, hu]
    simp only [Int.toNat_natCast]
    rw [if_neg (by simp only [ne_eq, not_true_eq_false, false_or, not_or]; exact ⟨by omega, by omega⟩), k1]
    simp only
    rw [ih, eTD, List.append_assoc]
set_option maxRecDepth 100000 in
theorem unpackE_pack {l : List Er} (h : OrdL l) (hl : l.length ≤ 4096) : unpackE (packE l) = some l := by
  have hF := pairs_fit h hl
  have hR := pairs_rises h
  have hL := flatP_len [] (pairsE l) hF.2
  have hP := hF.1
  have k1 := bytesP_most [] (flatP [] (pairsE l)) (versE l) (packE l).length (by omega) (by unfold packE; simp only [List.length_append]; omega)
  have e1 : [] ++ (digs (flatP [] (pairsE l)).length ++ (flatP [] (pairsE l) ++ versE l)) = packE l := rfl
  rw [e1] at k1
  have k2 := readP_back hF hR
  unfold unpackE
  rw [show ((0 : Int)) = (([] : List Int).length : Int) from rfl, k1]
  simp only [ne_eq, not_true_eq_false, if_false]
  rw [k2]
  simp only [not_true_eq_false, if_false]
  have e2 : packE l = (digs (flatP [] (pairsE l)).length ++ flatP [] (pairsE l)) ++ versE l := by unfold packE; rw [List.append_assoc]
  have k3 := unpF_back l.length l (digs (flatP [] (pairsE l)).length ++ flatP [] (pairsE l)) [] (Nat.le_refl _) hl (by simpa using h)
  rw [← e2] at k3
  rw [show ((([] : List Int).length : Int) + ((digs ((flatP [] (pairsE l)).length : Int)).length : Int) + ((flatP [] (pairsE l)).length : Int)) = ((digs (flatP [] (pairsE l)).length ++ flatP [] (pairsE l)).length : Int) by rw [List.length_append]; simp, k3]
  simp
end Go.Proofs.YtmgggddnfeojmaaGreat
namespace Go.Proofs.YtmgggddnfeojmaaGreat
/-- Half of it; if it was odd, with the bits turned. -/
def half (c : Nat) : Nat := if c % 2 = 1 then (c / 2) ^^^ 3988292384 else c / 2
theorem half_odd {c : Nat} (h : c % 2 = 1) : half c = (c / 2) ^^^ 3988292384 := by unfold half; rw [if_pos h]
theorem half_even {c : Nat} (h : c % 2 ≠ 1) : half c = c / 2 := by unfold half; rw [if_neg h]
theorem half_lt {c : Nat} (h : c < 4294967296) : half c < 4294967296 := by
  unfold half
  split
  · have : (c / 2) ^^^ 3988292384 < 2 ^ 32 := Nat.xor_lt_two_pow (by omega) (by decide)
    omega
  · omega
/-- So many halvings. -/
def halfN : Nat → Nat → Nat
  | 0, c => c
  | n + 1, c => halfN n (half c)
theorem halfN_snoc : ∀ n c : Nat, halfN (n + 1) c = half (halfN n c)
  | 0, _ => rfl
  | n + 1, c => halfN_snoc n (half c)
theorem halfN_lt : ∀ (n : Nat) {c : Nat}, c < 4294967296 → halfN n c < 4294967296
  | 0, _, h => h
  | n + 1, _, h => halfN_lt n (half_lt h)
def eight (c : Nat) : Nat := halfN 8 c
theorem eight_lt {c : Nat} (h : c < 4294967296) : eight c < 4294967296 := halfN_lt 8 h
theorem xor_lt32 {a b : Nat} (ha : a < 4294967296) (hb : b < 4294967296) : a ^^^ b < 4294967296 := by
  have : a ^^^ b < 2 ^ 32 := Nat.xor_lt_two_pow (by omega) (by omega)
  omega
/-- Bytes, one behind the other. -/
def crcF : Nat → List Int → Nat
  | c, [] => c
  | c, x :: s => crcF (eight (c ^^^ x.toNat)) s
theorem crcF_append : ∀ (c : Nat) (s t : List Int), crcF c (s ++ t) = crcF (crcF c s) t
  | _, [], _ => rfl
  | c, x :: s, t => crcF_append (eight (c ^^^ x.toNat)) s t
theorem crcF_take (c : Nat) (L : List Int) (k : Nat) (x : Int) (h : L[k]? = some x) : crcF c (L.take (k + 1)) = eight (crcF c (L.take k) ^^^ x.toNat) := by
  rw [List.take_add_one, h, crcF_append]
  rfl
theorem crcF_lt : ∀ (c : Nat) (L : List Int), c < 4294967296 → (∀ x ∈ L, 0 ≤ x ∧ x < 256) → crcF c L < 4294967296
  | _, [], h, _ => h
  | c, x :: s, h, hB => crcF_lt _ s (eight_lt (xor_lt32 h (by have := hB x (by simp); omega))) (fun y hy => hB y (List.mem_cons_of_mem _ hy))
/-- The sum. -/
def sumL (L : List Int) : Nat := crcF 4294967295 L ^^^ 4294967295
theorem sumL_lt (L : List Int) (h : ∀ x ∈ L, 0 ≤ x ∧ x < 256) : sumL L < 4294967296 := xor_lt32 (crcF_lt _ L (by decide) h) (by decide)
end Go.Proofs.YtmgggddnfeojmaaGreat
namespace Go.Proofs.YtmgggddnfeojmaaGreat
/-- A number's four bytes, the lowest first; and back. -/
def fourL (v : Int) : List Int := [v % 256, v / 256 % 256, v / 65536 % 256, v / 16777216 % 256]
def numL : List Int → Int
  | a :: b :: c :: d :: _ => a + 256 * (b + 256 * (c + 256 * d))
  | _ => 0
theorem fourL_len (v : Int) : (fourL v).length = 4 := rfl
theorem fourL_byt (v : Int) : Byt (fourL v) := by
  unfold fourL
  repeat (first | exact Byt.nil | refine Byt.cons (by omega) (by omega) ?_)
theorem num_four (v : Int) (s : List Int) (h0 : 0 ≤ v) (h1 : v < 4294967296) : numL (fourL v ++ s) = v := by
  show v % 256 + 256 * (v / 256 % 256 + 256 * (v / 65536 % 256 + 256 * (v / 16777216 % 256))) = v
  omega
theorem numL_in (L : List Int) (h : Byt L) : 0 ≤ numL L ∧ numL L < 4294967296 := by
  match L, h with
  | a :: b :: c :: d :: s, h =>
    have ha := h a (by simp)
    have hb := h b (by simp)
    have hc := h c (by simp)
    have hd := h d (by simp)
    simp only [numL]
    omega
  | [], _ | [_], _ | [_, _], _ | [_, _, _], _ => simp [numL]
/-- A payload, put. -/
def putL (p : List Int) : List Int := fourL p.length ++ (fourL (sumL (fourL p.length ++ p)) ++ p)
theorem putL_len (p : List Int) : (putL p).length = 8 + p.length := by
  unfold putL
  simp only [List.length_append, fourL_len]
  omega
theorem putL_byt (p : List Int) (h : Byt p) : Byt (putL p) := (fourL_byt _).append ((fourL_byt _).append h)
/-- What is read of bytes: the payload, how many bytes, the error. -/
def readL (R : List Int) : List Int × Nat × Int :=
  if R = [] then ([], 0, 12)
  else if R.length < 8 then ([], 0, 10)
  else if 2097152 < numL R then ([], 0, 11)
  else if R.length - 8 < (numL R).toNat then ([], 0, 10)
  else if numL (R.drop 4) ≠ (sumL (R.take 4 ++ (R.drop 8).take (numL R).toNat) : Int) then ([], 0, 11)
  else ((R.drop 8).take (numL R).toNat, 8 + (numL R).toNat, 0)
/-- .. at a place. -/
def fReadP (L : List Int) (at_ : Int) : List Int × Int × Int :=
  if at_ < 0 ∨ (L.length : Int) < at_ then ([], 0, 2)
  else if (readL (L.drop at_.toNat)).2.2 = 0 then ((readL (L.drop at_.toNat)).1, at_ + (readL (L.drop at_.toNat)).2.1, 0)
  else ([], 0, (readL (L.drop at_.toNat)).2.2)
theorem readL_ok (R : List Int) (h : (readL R).2.2 = 0) : 8 ≤ (readL R).2.1 ∧ (readL R).2.1 ≤ R.length ∧ (readL R).2.1 = 8 + (readL R).1.length ∧ (readL R).1.length ≤ 2097152 ∧ (Byt R → Byt (readL R).1) := by
  unfold readL at h ⊢
  split at h
  · simp at h
  · split at h
    · simp at h
    · split at h
      · simp at h
      · split at h
        · simp at h
        · split at h
          · simp at h
          · next h1 h2 h3 h4 h5 =>
            rw [if_neg h1, if_neg h2, if_neg h3, if_neg h4, if_neg h5]
            refine ⟨by simp only; omega, by simp only; omega, ?_, ?_, fun hB => (hB.drop 8).take _⟩
            · simp only [List.length_take, List.length_drop]
              omega
            · simp only [List.length_take, List.length_drop]
              omega
/-- What was put is read back. -/
theorem readL_put (p R : List Int) (hB : Byt p) (hl : p.length ≤ 2097152) : readL (putL p ++ R) = (p, 8 + p.length, 0) := by
  have hlen : (putL p ++ R).length = 8 + p.length + R.length := by rw [List.length_append, putL_len]
  have hn : numL (putL p ++ R) = p.length := by
    unfold putL
    rw [List.append_assoc]
    exact num_four _ _ (by omega) (by omega)
  have hs := sumL_lt (fourL p.length ++ p) ((fourL_byt _).append hB)
  have e4 : (putL p ++ R).take 4 = fourL p.length := by
    unfold putL
    rw [List.append_assoc]
    exact List.take_left' rfl
  have d4 : (putL p ++ R).drop 4 = fourL (sumL (fourL p.length ++ p)) ++ (p ++ R) := by
    unfold putL
    rw [List.append_assoc, List.drop_left' (by rfl), List.append_assoc]
  have d8 : (putL p ++ R).drop 8 = p ++ R := by
    rw [show 8 = 4 + 4 by rfl, ← List.drop_drop, d4]
    exact List.drop_left' rfl
  have hnat : (numL (putL p ++ R)).toNat = p.length := by rw [hn]; omega
  unfold readL
  rw [if_neg (fun e => by rw [e] at hlen; simp at hlen; omega), if_neg (by omega), if_neg (by rw [hn]; omega), if_neg (by rw [hnat]; omega), hnat, e4, d8, List.take_left' rfl, if_neg]
  rw [d4, num_four _ _ (by omega) (by omega)]
  simp
/-- Frames, read from the first byte on: payloads, the place behind, the error. -/
def allF : Nat → List Int → List (List Int) × Nat × Int
  | _, [] => ([], 0, 0)
  | 0, _ :: _ => ([], 0, 0)
  | n + 1, x :: s =>
    if (readL (x :: s)).2.2 = 0 then ((readL (x :: s)).1 :: (allF n ((x :: s).drop (readL (x :: s)).2.1)).1, (readL (x :: s)).2.1 + (allF n ((x :: s).drop (readL (x :: s)).2.1)).2.1, (allF n ((x :: s).drop (readL (x :: s)).2.1)).2.2)
    else ([], 0, (readL (x :: s)).2.2)
theorem allF_fuel : ∀ (n m : Nat) (L : List Int), L.length ≤ n → L.length ≤ m → allF n L = allF m L
  | n, m, [], _, _ => by cases n <;> cases m <;> rfl
  | 0, _, _ :: _, h, _ => by simp at h
  | _, 0, _ :: _, _, h => by simp at h
  | n + 1, m + 1, x :: s, hn, hm => by
    rw [allF, allF]
    by_cases h : (readL (x :: s)).2.2 = 0
    · obtain ⟨h8, h9, -⟩ := readL_ok _ h
      have hd : ((x :: s).drop (readL (x :: s)).2.1).length ≤ s.length := by rw [List.length_drop]; simp only [List.length_cons]; omega
      have ih := allF_fuel n m _ (Nat.le_trans hd (by simpa using hn)) (Nat.le_trans hd (by simpa using hm))
      rw [if_pos h, if_pos h, ih]
    · rw [if_neg h, if_neg h]
def allL (L : List Int) : List (List Int) × Nat × Int := allF L.length L
theorem allL_nil : allL [] = ([], 0, 0) := rfl
theorem allL_ok (L : List Int) (hL : L ≠ []) (h : (readL L).2.2 = 0) : allL L = ((readL L).1 :: (allL (L.drop (readL L).2.1)).1, (readL L).2.1 + (allL (L.drop (readL L).2.1)).2.1, (allL (L.drop (readL L).2.1)).2.2) := by
  cases L with
  | nil => exact absurd rfl hL
  | cons x s =>
    obtain ⟨h8, h9, -⟩ := readL_ok _ h
    have hd : ((x :: s).drop (readL (x :: s)).2.1).length ≤ s.length := by rw [List.length_drop]; simp only [List.length_cons]; omega
    have ih := allF_fuel s.length ((x :: s).drop (readL (x :: s)).2.1).length _ hd (Nat.le_refl _)
    unfold allL
    simp only [List.length_cons]
    rw [allF, if_pos h, ih]
theorem allL_bad (L : List Int) (hL : L ≠ []) (h : (readL L).2.2 ≠ 0) : allL L = ([], 0, (readL L).2.2) := by
  cases L with
  | nil => exact absurd rfl hL
  | cons x s =>
    unfold allL
    simp only [List.length_cons]
    rw [allF, if_neg h]
/-- What a walk over frames has read, and what is left. -/
def LeftF (L : List Int) (T : List (List Int)) (at_ : Nat) : Prop := at_ ≤ L.length ∧ (allL L).1 = T ++ (allL (L.drop at_)).1 ∧ (allL L).2.1 = at_ + (allL (L.drop at_)).2.1 ∧ (allL L).2.2 = (allL (L.drop at_)).2.2
theorem LeftF.refl (L : List Int) : LeftF L [] 0 := ⟨by omega, rfl, by simp, rfl⟩
theorem LeftF.step {L : List Int} {T : List (List Int)} {at_ : Nat} (h : LeftF L T at_) (hl : at_ < L.length) (h0 : (readL (L.drop at_)).2.2 = 0) : LeftF L (T ++ [(readL (L.drop at_)).1]) (at_ + (readL (L.drop at_)).2.1) := by
  have hne : L.drop at_ ≠ [] := fun e => by have := congrArg List.length e; simp at this; omega
  obtain ⟨h8, h9, -⟩ := readL_ok _ h0
  obtain ⟨a, b, c, d⟩ := h
  have e := allL_ok _ hne h0
  rw [List.drop_drop] at e
  rw [e] at b c d
  refine ⟨by rw [List.length_drop] at h9; omega, ?_, ?_, d⟩
  · rw [b]; simp
  · rw [c]; simp only; omega
theorem LeftF.end_ {L : List Int} {T : List (List Int)} {at_ : Nat} (h : LeftF L T at_) (hl : L.length ≤ at_) : allL L = (T, at_, 0) := by
  obtain ⟨a, b, c, d⟩ := h
  rw [List.drop_of_length_le hl, allL_nil] at b c d
  exact Prod.ext (by simpa using b) (Prod.ext (by simpa using c) d)
theorem LeftF.bad {L : List Int} {T : List (List Int)} {at_ : Nat} (h : LeftF L T at_) (hl : at_ < L.length) (h0 : (readL (L.drop at_)).2.2 ≠ 0) : allL L = (T, at_, (readL (L.drop at_)).2.2) := by
  have hne : L.drop at_ ≠ [] := fun e => by have := congrArg List.length e; simp at this; omega
  obtain ⟨a, b, c, d⟩ := h
  rw [allL_bad _ hne h0] at b c d
  exact Prod.ext (by simpa using b) (Prod.ext (by simpa using c) d)
theorem readL_few (R : List Int) (h0 : R ≠ []) (h : R.length < 8) : readL R = ([], 0, 10) := by
  unfold readL
  rw [if_neg h0, if_pos h]
end Go.Proofs.YtmgggddnfeojmaaGreat
namespace Go.Proofs.YtmgggddnfeojmaaGreat
/-- How many of the entries, from the first on, make a block. -/
def fillF : Nat → Int → List Er → Nat
  | 0, _, _ => 0
  | _ + 1, _, [] => 0
  | m + 1, s, e :: l => if s < 1048576 then fillF m (s + (e.1.length + e.2.2.2.length)) l + 1 else 0
def fillN (most : Nat) (l : List Er) : Nat := fillF most 0 l
theorem fillF_le : ∀ (m : Nat) (s : Int) (l : List Er), fillF m s l ≤ m ∧ fillF m s l ≤ l.length
  | 0, _, _ => ⟨Nat.le_refl _, Nat.zero_le _⟩
  | _ + 1, _, [] => ⟨Nat.zero_le _, Nat.le_refl _⟩
  | m + 1, s, e :: l => by
    unfold fillF
    have := fillF_le m (s + (e.1.length + e.2.2.2.length)) l
    split
    · simp only [List.length_cons]; omega
    · simp
theorem fillN_le (m : Nat) (l : List Er) : fillN m l ≤ m ∧ fillN m l ≤ l.length := fillF_le m 0 l
theorem fillN_pos {m : Nat} {e : Er} {l : List Er} (h : 1 ≤ m) : 1 ≤ fillN m (e :: l) := by
  obtain ⟨k, rfl⟩ : ∃ k, m = k + 1 := ⟨m - 1, by omega⟩
  unfold fillN fillF
  rw [if_pos (by decide)]
  omega
/-- How many bytes the keys and the values of entries have. -/
def sizeE (l : List Er) : Nat := (l.map (fun e => e.1.length + e.2.2.2.length)).sum
theorem sizeE_cons (e : Er) (l : List Er) : sizeE (e :: l) = e.1.length + e.2.2.2.length + sizeE l := by simp [sizeE]
theorem fillF_size : ∀ (m : Nat) (s : Int) (l : List Er), (∀ e ∈ l, GoodE e) → s < 1048576 + 4296 → s + sizeE (l.take (fillF m s l)) < 1048576 + 4296
  | 0, s, l, _, hs => by simpa [fillF, sizeE] using hs
  | _ + 1, s, [], _, hs => by simpa [fillF, sizeE] using hs
  | m + 1, s, e :: l, h, hs => by
    unfold fillF
    split
    · next h1 =>
      have hg := h e (by simp)
      have h2 := hg.1.2
      have h3 := hg.2.2.1
      have := fillF_size m (s + (e.1.length + e.2.2.2.length)) l (fun x hx => h x (by simp [hx])) (by omega)
      rw [List.take_succ_cons, sizeE_cons]
      omega
    · simpa [sizeE] using hs
/-- Entries, cut into blocks. -/
def piecesF (most : Nat) : Nat → List Er → List (List Er)
  | 0, _ => []
  | _, [] => []
  | f + 1, e :: l => (e :: l).take (fillN most (e :: l)) :: piecesF most f ((e :: l).drop (fillN most (e :: l)))
def piecesE (most : Nat) (l : List Er) : List (List Er) := piecesF most l.length l
theorem piecesF_fuel (most : Nat) (hm : 1 ≤ most) : ∀ (f g : Nat) (l : List Er), l.length ≤ f → l.length ≤ g → piecesF most f l = piecesF most g l
  | 0, 0, _, _, _ => rfl
  | 0, g + 1, l, h, _ => by
    obtain rfl : l = [] := List.eq_nil_of_length_eq_zero (by omega)
    rfl
  | f + 1, 0, l, _, h => by
    obtain rfl : l = [] := List.eq_nil_of_length_eq_zero (by omega)
    rfl
  | f + 1, g + 1, [], _, _ => rfl
  | f + 1, g + 1, e :: l, hf, hg => by
    have h1 := fillN_pos (e := e) (l := l) hm
    unfold piecesF
    rw [piecesF_fuel most hm f g _ (by rw [List.length_drop]; simp only [List.length_cons] at hf ⊢; omega) (by rw [List.length_drop]; simp only [List.length_cons] at hg ⊢; omega)]
theorem piecesE_cons {most : Nat} (hm : 1 ≤ most) (e : Er) (l : List Er) : piecesE most (e :: l) = (e :: l).take (fillN most (e :: l)) :: piecesE most ((e :: l).drop (fillN most (e :: l))) := by
  have h1 := fillN_pos (e := e) (l := l) hm
  unfold piecesE
  conv => lhs; rw [List.length_cons]; unfold piecesF
  rw [piecesF_fuel most hm l.length _ _ (by rw [List.length_drop]; simp only [List.length_cons]; omega) (Nat.le_refl _)]
theorem pieces_flat {most : Nat} (hm : 1 ≤ most) : ∀ (f : Nat) (l : List Er), l.length ≤ f → (piecesE most l).flatten = l
  | _, [], _ => rfl
  | 0, e :: l, h => by simp at h
  | f + 1, e :: l, h => by
    have h1 := fillN_pos (e := e) (l := l) hm
    rw [piecesE_cons hm, List.flatten_cons, pieces_flat hm f _ (by rw [List.length_drop]; simp only [List.length_cons] at h ⊢; omega), List.take_append_drop]
/-- What each block is. -/
def PieceOk (most : Nat) (p : List Er) : Prop := p ≠ [] ∧ p.length ≤ most ∧ OrdL p ∧ sizeE p < 1048576 + 4296
theorem pieces_ok {most : Nat} (hm : 1 ≤ most) : ∀ (f : Nat) (l : List Er), l.length ≤ f → OrdL l → ∀ p ∈ piecesE most l, PieceOk most p
  | _, [], _, _, p, hp => by cases hp
  | 0, e :: l, h, _, _, _ => by simp at h
  | f + 1, e :: l, h, ho, p, hp => by
    have h1 := fillN_pos (e := e) (l := l) hm
    have h2 := fillN_le most (e :: l)
    rw [piecesE_cons hm] at hp
    rcases List.mem_cons.1 hp with rfl | hp
    · refine ⟨fun k => ?_, by rw [List.length_take]; omega, ho.take _, ?_⟩
      · have := congrArg List.length k
        rw [List.length_take] at this
        simp only [List.length_nil] at this
        omega
      · have := fillF_size most 0 (e :: l) ho.good (by decide)
        unfold fillN
        omega
    · exact pieces_ok hm f _ (by rw [List.length_drop]; simp only [List.length_cons] at h ⊢; omega) (ho.drop _) p hp
/-- A block's frame; what the index tells of it; the index; the file. -/
def frameE (l : List Er) : List Int := putL (packE l)
def tellE (p : List Er) : Er := match p with
  | [] => ([], 0, false, [])
  | e :: _ => (e.1, e.2.1, false, digs (p.length : Nat) ++ digs ((frameE p).length : Nat))
def indexE (ps : List (List Er)) : List Er := ps.map tellE
def lastE (l : List Er) : List Int := match l.getLast? with
  | none => []
  | some e => e.1
def headT (n : Nat) (k : List Int) : List Int := putL (digs n ++ (digs k.length ++ k))
def fileE (l : List Er) (size : Nat) : List Int :=
  headT (piecesE 1024 (indexE (piecesE size l))).length (lastE l) ++ ((piecesE 1024 (indexE (piecesE size l))).flatMap frameE ++ (piecesE size l).flatMap frameE)
/-- What the index tells of a block, read. -/
structure Rw where
  first : Er
  count : Int
  fro : Int
  upTo : Int
/-- A table that could be opened. -/
structure Tb where
  data : List Int
  rows : List Rw
  great : List Int
def headP (L : List Int) : Option (Int × List Int × Int) :=
  if (fReadP L 0).2.2 ≠ 0 then none
  else if (uintP (fReadP L 0).1 0).2.2 ≠ 0 then none
  else if (bytesP (fReadP L 0).1 (uintP (fReadP L 0).1 0).2.1 200).2.2 ≠ 0 then none
  else if (bytesP (fReadP L 0).1 (uintP (fReadP L 0).1 0).2.1 200).2.1 ≠ (fReadP L 0).1.length then none
  else some ((uintP (fReadP L 0).1 0).1, (bytesP (fReadP L 0).1 (uintP (fReadP L 0).1 0).2.1 200).1, (fReadP L 0).2.1)
def idxP (L : List Int) : Nat → Int → List Er → Option (List Er × Int)
  | 0, a, acc => some (acc, a)
  | n + 1, a, acc =>
    if (fReadP L a).2.2 ≠ 0 then none
    else match unpackE (fReadP L a).1 with
      | none => none
      | some l => idxP L n (fReadP L a).2.1 (acc ++ l)
def rowP (e : Er) (a end_ : Int) : Option Rw :=
  if (uintP e.2.2.2 0).2.2 ≠ 0 ∨ (uintP e.2.2.2 0).1 < 1 ∨ 1024 < (uintP e.2.2.2 0).1 then none
  else if (uintP e.2.2.2 (uintP e.2.2.2 0).2.1).2.2 ≠ 0 ∨ (uintP e.2.2.2 (uintP e.2.2.2 0).2.1).2.1 < e.2.2.2.length ∨ end_ - a < (uintP e.2.2.2 (uintP e.2.2.2 0).2.1).1 then none
  else some ⟨(e.1, e.2.1, false, []), (uintP e.2.2.2 0).1, a, a + (uintP e.2.2.2 (uintP e.2.2.2 0).2.1).1⟩
def rowsP (end_ : Int) : List Er → Int → List Rw → Option (List Rw)
  | [], a, acc => if a = end_ then some acc else none
  | e :: l, a, acc => match rowP e a end_ with
    | none => none
    | some r => rowsP end_ l r.upTo (acc ++ [r])
def tableP (L : List Int) : Option Tb :=
  match headP L with
  | none => none
  | some (n, g, a) => match idxP L n.toNat a [] with
    | none => none
    | some (ix, a') => if ix = [] ∨ ¬ OrdL ix then none else match rowsP L.length ix a' [] with
      | none => none
      | some rows => some ⟨L, rows, g⟩
/-- A block's entries, if it is what its row tells. -/
def fitsP (t : Tb) (i : Nat) (r : Rw) (l : List Er) : Bool :=
  decide ((l.length : Int) = r.count) && (match l.head?, l.getLast? with
    | some x, some y => decide (ordE x r.first = 0) && (match t.rows[i + 1]? with
      | some r' => decide (ordE y r'.first < 0)
      | none => decide (y.1 = t.great))
    | _, _ => false)
def blockP (t : Tb) (i : Nat) : Option (List Er) := match t.rows[i]? with
  | none => none
  | some r => if (fReadP t.data r.fro).2.2 ≠ 0 ∨ (fReadP t.data r.fro).2.1 ≠ r.upTo then none
    else match unpackE (fReadP t.data r.fro).1 with
      | none => none
      | some l => if fitsP t i r l then some l else none
end Go.Proofs.YtmgggddnfeojmaaGreat
namespace Go.Proofs.YtmgggddnfeojmaaGreat
open Go.RowKit
/-- A box of an entry, as a walk makes it. -/
theorem box_cells (w : World) (v0 v1 v2 v3 : Value) : Below w.heap.size w (w.alloc (.cells #[v0, v1, v2, v3] 48)) ∧ ∀ W, Below (w.alloc (.cells #[v0, v1, v2, v3] 48)).heap.size (w.alloc (.cells #[v0, v1, v2, v3] 48)) W → W.cell? ⟨w.heap.size, 0, none⟩ = some v0 ∧ W.cell? ⟨w.heap.size, 1, none⟩ = some v1 ∧ W.cell? ⟨w.heap.size, 2, none⟩ = some v2 ∧ W.cell? ⟨w.heap.size, 3, none⟩ = some v3 := by
  refine ⟨below_new _ _, fun W hb => ?_⟩
  have e : W.heap[w.heap.size]? = some (.cells #[v0, v1, v2, v3] 48 (0, 0)) := (hb.block _ (by simp)).trans (heap_alloc_new w _)
  refine ⟨?_, ?_, ?_, ?_⟩ <;> simp [World.cell?, e]
set_option maxRecDepth 100000 in
theorem mayBe_any (q : En) (w : World) (hs : -9223372036854775808 ≤ q.s ∧ q.s ≤ 9223372036854775807) (hk : q.k.l.length ≤ 9223372036854775807) (hv : q.v.l.length ≤ 9223372036854775807) : Calls Tryz.prog 55 #[q.val] w fun e w' => e = .returned (.bool (decide (GoodE q.rd))) ∧ Below w.heap.size w w' := by
  obtain ⟨b, hb⟩ : ∃ b, decide (GoodE q.rd) = b := ⟨_, rfl⟩
  rw [hb, En.val_eq]
  obtain ⟨⟨ka, kc, k⟩, s, d, ⟨va, vc, v⟩⟩ := q
  have HB : Hid (decide (((1 ≤ k.length ∧ k.length ≤ 200) ∧ (1 ≤ s ∧ s ≤ 1099511627776) ∧ v.length ≤ 4096 ∧ (d = true → v = []))) = b) := Lib.hid hb
  have HV : Hid (v = [] ↔ v.length = 0) := Lib.hid List.length_eq_zero_iff.symm
  simp only at hs hk hv ⊢
  obtain ⟨n, hn⟩ : ∃ n, k.length = n := ⟨_, rfl⟩
  obtain ⟨m, hm⟩ : ∃ m, v.length = m := ⟨_, rfl⟩
  simp only [hn, hm] at hk hv ⊢
  have HB2 : Hid (decide (((1 ≤ n ∧ n ≤ 200) ∧ (1 ≤ s ∧ s ≤ 1099511627776) ∧ m ≤ 4096 ∧ (d = true → m = 0))) = b) := Lib.hid (by rw [← HB.out, hn, hm]; congr 1; rw [HV.out, hm])
  clear hb HB HV hn hm
  obtain ⟨B1, C1⟩ := box_cells w (.slice ka n kc) (.int .i64 s) (.bool d) (.slice va m vc)
  obtain ⟨x0, x1, x2, x3⟩ := C1 _ (Below.refl _ _)
  have HB1 := Lib.hid B1
  clear C1 B1
  by_cases h1 : n = 0
  · subst h1
    obtain rfl : b = false := by rw [← HB2.out]; simp
    clear HB2
    go_enter Tryz.func55, Tryz.ntmps55
    go_wp2_with fail
    go_ret
    exact ⟨by simp, HB1.out⟩
  · have h1' : ¬ (n : Int) = 0 := by omega
    by_cases h2 : n ≤ 200
    · have h2' : ¬ 200 < (n : Int) := by omega
      by_cases h3 : 1 ≤ s
      · have h3' : ¬ s < 1 := by omega
        by_cases h4 : s ≤ 1099511627776
        · have h4' : ¬ 1099511627776 < s := by omega
          cases d
          · have HR : Hid (b = decide (m ≤ 4096)) := Lib.hid (by rw [← HB2.out]; congr 1; apply propext; constructor <;> intro h <;> (try omega); exact ⟨⟨by omega, h2⟩, ⟨h3, h4⟩, h, fun e => by cases e⟩)
            clear HB2
            go_enter Tryz.func55, Tryz.ntmps55
            go_wp2_with fail
            go_ret
            exact ⟨by rw [HR.out]; congr 2; simp; omega, HB1.out⟩
          · have HR : Hid (b = decide (m = 0)) := Lib.hid (by rw [← HB2.out]; congr 1; apply propext; constructor <;> intro h; (exact h.2.2.2 rfl); exact ⟨⟨by omega, h2⟩, ⟨h3, h4⟩, by omega, fun _ => h⟩)
            clear HB2
            go_enter Tryz.func55, Tryz.ntmps55
            go_wp2_with fail
            go_ret
            exact ⟨by rw [HR.out]; simp; rw [Bool.eq_iff_iff]; simp, HB1.out⟩
        · obtain rfl : b = false := by rw [← HB2.out]; simp; omega
          have h4' : 1099511627776 < s := by omega
          clear HB2
          go_enter Tryz.func55, Tryz.ntmps55
          go_wp2_with fail
          go_ret
          exact ⟨by simp, HB1.out⟩
      · obtain rfl : b = false := by rw [← HB2.out]; simp; omega
        have h3' : s < 1 := by omega
        clear HB2
        go_enter Tryz.func55, Tryz.ntmps55
        go_wp2_with fail
        go_ret
        exact ⟨by simp, HB1.out⟩
    · obtain rfl : b = false := by rw [← HB2.out]; simp; omega
      have h2' : 200 < (n : Int) := by omega
      clear HB2
      go_enter Tryz.func55, Tryz.ntmps55
      go_wp2_with fail
      go_ret
      exact ⟨by simp, HB1.out⟩
end Go.Proofs.YtmgggddnfeojmaaGreat
