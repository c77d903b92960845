/-
  Memory: files as they lie, three cells each.
-/
import Derived.Test.YtjacjafpeajhaaaMemK
import Derived.Laws.Strings
namespace Go.Proofs.Ytjacjafpeajhaaa
open Go.RowKit

/-- A text's bytes as numbers. -/
def nums (s : ByteArray) : List Int := s.data.toList.map fun b => (b.toNat : Int)
theorem nums_len (s : ByteArray) : (nums s).length = s.size := by simp [nums]
theorem nums_byt (s : ByteArray) : Byt (nums s) := fun x hx => by
  obtain ⟨b, -, rfl⟩ := List.mem_map.1 hx
  have := b.toNat_lt
  omega
theorem nums_str (s : ByteArray) : strOfNums (nums s) = s := by
  obtain ⟨d⟩ := s
  unfold strOfNums nums
  rw [List.map_map]
  have : ((fun n : Int => UInt8.ofNat n.toNat) ∘ fun b : UInt8 => (b.toNat : Int)) = id := by
    funext b
    simp
  rw [this]
  simp
theorem nums_of_str (L : List Int) (h : Byt L) : nums (strOfNums L) = L := by
  unfold strOfNums nums
  simp only [List.map_map]
  conv => rhs; rw [← List.map_id L]
  refine List.map_congr_left fun x hx => ?_
  obtain ⟨h0, h1⟩ := h x hx
  simp only [Function.comp, id]
  have : (UInt8.ofNat x.toNat).toNat = x.toNat := by
    rw [UInt8.toNat_ofNat']
    omega
  omega
theorem nums_get (s : ByteArray) (k : Nat) (h : k < s.size) : (nums s)[k]? = some ((s[k].toNat : Nat) : Int) := by
  have : s.data.toList[k]? = some s[k] := by
    rw [Array.getElem?_toList, Array.getElem?_eq_getElem h]
    rfl
  simp [nums, this]
theorem str_inj {s t : ByteArray} (h : nums s = nums t) : s = t := by rw [← nums_str s, ← nums_str t, h]
theorem str_of_inj {L M : List Int} (hL : Byt L) (hM : Byt M) : strOfNums L = strOfNums M ↔ L = M :=
  ⟨fun h => by rw [← nums_of_str L hL, ← nums_of_str M hM, h], fun h => by rw [h]⟩

/-- A file as it lies. -/
structure Fl where
  s : ByteArray
  d : Sl
  y : Int
def Fl.val (q : Fl) : Value := .agg #[.string q.s, q.d.val, .int .i64 q.y]
def Fl.cells (q : Fl) : List Value := [.string q.s, q.d.val, .int .i64 q.y]
def fvals (l : List Fl) : List Value := l.flatMap Fl.cells
theorem fvals_len : ∀ l : List Fl, (fvals l).length = l.length * 3
  | [] => rfl
  | q :: l => by
    have := fvals_len l
    unfold fvals at this ⊢
    rw [List.flatMap_cons, List.length_append, this]
    simp [Fl.cells]
    omega
theorem fvals_append (l m : List Fl) : fvals (l ++ m) = fvals l ++ fvals m := by simp [fvals]
theorem fvals_get : ∀ (l : List Fl) (j : Nat) (q : Fl), l[j]? = some q → (fvals l)[j * 3]? = some (.string q.s) ∧ (fvals l)[j * 3 + 1]? = some q.d.val ∧ (fvals l)[j * 3 + 2]? = some (.int .i64 q.y)
  | [], _, _, h => by simp at h
  | p :: l, 0, q, h => by
    simp at h
    subst h
    exact ⟨rfl, rfl, rfl⟩
  | p :: l, j + 1, q, h => by
    have ih := fvals_get l j q (by simpa using h)
    have e : fvals (p :: l) = .string p.s :: p.d.val :: .int .i64 p.y :: fvals l := rfl
    rw [e]
    have e0 : (j + 1) * 3 = j * 3 + 1 + 1 + 1 := by omega
    rw [e0]
    refine ⟨by simpa using ih.1, ?_, ?_⟩
    · rw [show j * 3 + 1 + 1 + 1 + 1 = (j * 3 + 1) + 1 + 1 + 1 by omega]
      simpa using ih.2.1
    · rw [show j * 3 + 1 + 1 + 1 + 2 = (j * 3 + 2) + 1 + 1 + 1 by omega]
      simpa using ih.2.2
theorem fvals_one {l : List Fl} : ∀ u ∈ fvals l, u.oneCell' = true := fun u hu => by
  obtain ⟨q, -, h⟩ := List.mem_flatMap.1 hu
  simp [Fl.cells] at h
  rcases h with rfl | rfl | rfl <;> rfl

/-- The cells of one file, as a walk spells them. -/
def AtF (w : World) (E : Addr) (q : Fl) : Prop := w.cell? E = some (.string q.s) ∧ w.cell? ⟨E.block, E.off + 1, none⟩ = some (.slice q.d.a q.d.l.length q.d.c) ∧ w.cell? ⟨E.block, E.off + 2, none⟩ = some (.int .i64 q.y)
theorem lies_file {w : World} {A : Option Addr} {l : List Fl} {j : Nat} {q : Fl} (h : Lies w A (fvals l)) (hq : l[j]? = some q) : ∃ ad, A = some ad ∧ AtF w (ad.add (j * 3)) q := by
  obtain ⟨h0, h1, h3⟩ := fvals_get l j q hq
  rcases h with h | ⟨ad, rfl, h2⟩
  · rw [h] at h0
    simp at h0
  · refine ⟨ad, rfl, h2 _ _ h0, ?_, ?_⟩
    · have := h2 _ _ h1
      rw [← add_add] at this
      simpa [Addr.add, Sl.val] using this
    · have := h2 _ _ h3
      rw [← add_add] at this
      simpa [Addr.add] using this
theorem lies_file_at {w : World} {ad : Addr} {l : List Fl} {j : Nat} {q : Fl} (h : Lies w (some ad) (fvals l)) (hq : l[j]? = some q) : AtF w (ad.add (j * 3)) q := by
  obtain ⟨ad', e, h'⟩ := lies_file h hq
  injection e with e
  subst e
  exact h'
theorem below_drewN {B : Nat} {a w : World} (h : Below B a w) (n : Nat) : Below B a (w.drewN n) := ⟨h.os, h.tape, h.output, h.size, h.block⟩
theorem Lies.alloc {w : World} {A : Option Addr} {xs : List Value} (h : Lies w A xs) (o : Obj) : Lies (w.alloc o) A xs := h.kept (below_new w o)

theorem info48 : (Try.prog.info? 48).map (fun i => (i.zero, i.size, i.bytes)) = some (some (.agg #[.string ⟨#[]⟩, .slice none 0 0, .int .i64 0]), 3, 48) := by kernel_rfl

/-- A row of files of the call's own, or nil. -/
def Frow (w : World) (B : Nat) (A : Option Addr) (c : Nat) (l : List Fl) : Prop := w.ownsRow B 48 3 (.slice A l.length c) l.length (fvals l)
theorem Frow.nil (w : World) (B : Nat) : Frow w B none 0 [] := World.ownsRow_nil w B _ _
theorem Frow.lies {w : World} {B : Nat} {A : Option Addr} {c : Nat} {l : List Fl} (h : Frow w B A c l) : Lies w A (fvals l) := by
  rcases h.2 with ⟨_, h⟩ | ⟨g, cap, cur, e, _⟩
  · exact .inl (by rw [List.eq_nil_of_length_eq_zero h]; rfl)
  · injection e with e1 e2 e3
    subst e1
    exact .inr ⟨_, rfl, fun j u hu => World.ownsRow.cells h (g := g) rfl j u hu⟩
theorem Frow.kept {w w' : World} {B C : Nat} {A : Option Addr} {c : Nat} {l : List Fl} (h : Frow w B A c l) (hb : Below C w w') (hC : w.heap.size ≤ C) : Frow w' B A c l := own_kept h hb hC
theorem Frow.mono {w : World} {B C : Nat} {A : Option Addr} {c : Nat} {l : List Fl} (h : Frow w B A c l) (hC : C ≤ B) : Frow w C A c l := own_mono h hC
theorem Frow.alloc {w : World} {B : Nat} {A : Option Addr} {c : Nat} {l : List Fl} (h : Frow w B A c l) (o : Obj) : Frow (w.alloc o) B A c l := h.kept (below_new w o) (Nat.le_refl _)
theorem wpList_append_frow (w : World) {ops : Array Oper} {rest : List Oper} {o : Oper} {a : Act} {Q : Exit → Act → World → Prop} (hgd : o.guard = none) (s x : Operand)
    (ho : o.op = .call { callee := .builtin .append, args := #[s, x], argTypes := #[22, 22] })
    (B : Nat) (A : Option Addr) (c : Nat) (T U : List Fl) (C : Option Addr) (n m cm : Nat) (hs : a.eval s = .slice A n c) (hx : a.eval x = .slice C m cm) (en : T.length = n) (em : U.length = m) (h : Frow w B A c T) (hm : Lies w C (fvals U)) (hB : B ≤ w.heap.size) (hr : (T.length + U.length) * 48 ≤ 140737488355328)
    (k : ∀ A' c' w', Frow w' B A' c' (T ++ U) → Below B w w' → w.grownBy w' (Value.slice A n c).ownBlock → wpList Try.prog ops Q rest (a.put o.dst (.slice A' (n + m) c')) w') : wpList Try.prog ops Q (o :: rest) a w := by
  subst en
  subst em
  obtain ⟨i, hi, hz0, hz1, hz2⟩ := info_parts info48
  refine wpList_plain hgd fun K hK => ?_
  obtain ⟨A', c', w', r, h2, h3, h4⟩ := run_append_grown (P := Try.prog) w 22 o.type 48 i (.agg #[.string ⟨#[]⟩, .slice none 0 0, .int .i64 0]) 3 48 Try.underlying22 hi hz0 hz1 hz2 rfl (by decide) B A T.length c (fvals T) h C U.length cm (fvals U) (by rw [fvals_len]) hm fvals_one (by unfold maxLen; omega) hr hB
  rw [← fvals_append] at h2
  have k' := k A' c' w' (by unfold Frow; rw [List.length_append]; exact h2) h3 h4
  unfold Oper.wp execOp
  simp only [ho, resolve, invoke, builtin, Sem.run_bind, Sem.run_pure, Result.andThen_ok, List.map_toArray, List.map_cons, List.map_nil, hs, hx, r]
  exact hK _ _ k'

end Go.Proofs.Ytjacjafpeajhaaa
