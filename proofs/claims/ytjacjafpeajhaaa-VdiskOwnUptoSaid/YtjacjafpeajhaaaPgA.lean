/-
  Plain: files by name in a map, in the order of their names; what is read of the program's disk.
-/
import Derived.Test.YtjacjafpeajhaaaWkN
import Derived.Maps.OwnSet
import Derived.Sort.KeysCollected
namespace Go.Proofs.Ytjacjafpeajhaaa
open Go.RowKit
open Go.Maps

/-- A file of the program's: its name, its block, its bytes, how many are synced. -/
structure Pf where
  s : ByteArray
  h : Nat
  d : Sl
  y : Int
def Pf.rd (q : Pf) : ByteArray × List Int × Int := (q.s, q.d.l, q.y)
def Pf.at_ (q : Pf) : Addr := ⟨q.h, 0, none⟩
/-- A name as a map's key. -/
def kOf (s : ByteArray) : Lit := .string s.data.toList
theorem kOf_inj {s t : ByteArray} (h : kOf s = kOf t) : s = t := by
  unfold kOf at h
  injection h with h
  obtain ⟨⟨l⟩⟩ := s
  obtain ⟨⟨m⟩⟩ := t
  simpa using h
/-- The map of the files, as it is read. -/
def ents (l : List Pf) : List (Lit × DataW Addr) := l.map fun q => (kOf q.s, .held q.at_)
def Dm (l : List Pf) : DataW Addr := .map (ents l)
/-- How a file's place in the map reads. -/
def ptrElem : Value → Option (DataW Addr × List MemPlace)
  | .pointer none => some (.nil, [])
  | .pointer (some a) => some (.held a, [])
  | _ => none
theorem ptrElem_inv {v : Value} {z : DataW Addr × List MemPlace} (h : ptrElem v = some z) : (v = .pointer none ∧ z.1 = .nil) ∨ ∃ a, v = .pointer (some a) ∧ z.1 = .held a := by
  unfold ptrElem at h
  split at h
  · injection h with h
    exact .inl ⟨rfl, by rw [← h]⟩
  · injection h with h
    exact .inr ⟨_, rfl, by rw [← h]⟩
  · cases h

/-- The file of that name. -/
def findP (s : ByteArray) (l : List Pf) : Option Pf := l.find? (fun q => decide (q.s = s))
theorem findP_mem {s : ByteArray} {l : List Pf} {q : Pf} (h : findP s l = some q) : q ∈ l ∧ q.s = s := by
  unfold findP at h
  refine ⟨List.mem_of_find?_eq_some h, ?_⟩
  have := List.find?_some h
  simpa using this
theorem findP_none {s : ByteArray} {l : List Pf} (h : findP s l = none) : ∀ q ∈ l, q.s ≠ s := fun q hq e => by
  unfold findP at h
  have := List.find?_eq_none.1 h q hq
  simp [e] at this
theorem sameKey_kOf (s t : ByteArray) : (kOf s).sameKey (kOf t) = decide (s = t) := by
  unfold kOf Lit.sameKey
  obtain ⟨⟨l⟩⟩ := s
  obtain ⟨⟨m⟩⟩ := t
  by_cases h : l = m
  · subst h; simp
  · simp [h]
theorem atKey_Dm (s : ByteArray) : ∀ l : List Pf, (Dm l).atKey (kOf s) .nil = match findP s l with | some q => .held q.at_ | none => .nil
  | [] => rfl
  | q :: l => by
    have ih := atKey_Dm s l
    unfold Dm ents DataW.atKey findP at ih ⊢
    simp only [List.map_cons, List.find?_cons, sameKey_kOf] at ih ⊢
    by_cases h : q.s = s
    · simp [h]
    · simp only [h, decide_false]
      exact ih
/-- What a look-up answers. -/
def ptrOf : Option Pf → Value
  | none => .pointer none
  | some q => .pointer (some q.at_)

theorem ltS_before (s t : ByteArray) : ltS s t = (kOf s).before (kOf t) := by
  have key : ∀ a b : List UInt8, Op.bytesLess a b = bytesBefore a b := by
    intro a
    induction a with
    | nil => intro b; cases b <;> rfl
    | cons x a ih =>
      intro b
      cases b with
      | nil => rfl
      | cons y b => simp [Op.bytesLess, bytesBefore, ih b]
  unfold ltS kOf Lit.before
  rw [ByteArray.toList_eq, ByteArray.toList_eq]
  exact key _ _
theorem ltS_irrefl (s : ByteArray) : ltS s s = false := by rw [ltS_before]; exact WideShapes.before_irrefl _
theorem ltS_trans {s t u : ByteArray} (h : ltS s t = true) (k : ltS t u = true) : ltS s u = true := by
  rw [ltS_before] at *
  exact WideShapes.before_trans h k
theorem ltS_total {s t : ByteArray} (h : s ≠ t) : ltS s t = true ∨ ltS t s = true := by
  rw [ltS_before, ltS_before]
  unfold kOf Lit.before
  refine WideAt.bytes_total _ _ fun e => h ?_
  obtain ⟨⟨l⟩⟩ := s
  obtain ⟨⟨m⟩⟩ := t
  simpa using e
theorem ltS_asym {s t : ByteArray} (h : ltS s t = true) : ltS t s = false := by
  cases k : ltS t s
  · rfl
  · have := ltS_trans h k
    rw [ltS_irrefl] at this
    cases this

/-- A file put in, in the order of the names. -/
def insP (q : Pf) : List Pf → List Pf
  | [] => [q]
  | x :: l => if ltS q.s x.s then q :: x :: l else x :: insP q l
theorem ents_ins (q : Pf) : ∀ l : List Pf, DataW.insert (kOf q.s, .held q.at_) (ents l) = ents (insP q l)
  | [] => rfl
  | x :: l => by
    have ih := ents_ins q l
    unfold ents at ih ⊢
    simp only [List.map_cons, DataW.insert, insP, ltS_before]
    split
    · rfl
    · simp [ih]
theorem mem_insP {q x : Pf} : ∀ {l : List Pf}, x ∈ insP q l ↔ x = q ∨ x ∈ l
  | [] => by simp [insP]
  | y :: l => by
    unfold insP
    split
    · simp
    · rw [List.mem_cons, mem_insP, List.mem_cons]
      constructor
      · rintro (h | h | h)
        · exact .inr (.inl h)
        · exact .inl h
        · exact .inr (.inr h)
      · rintro (h | h | h)
        · exact .inr (.inl h)
        · exact .inl h
        · exact .inr (.inr h)
theorem insP_len (q : Pf) : ∀ l : List Pf, (insP q l).length = l.length + 1
  | [] => rfl
  | x :: l => by
    unfold insP
    split
    · simp
    · simp [insP_len q l]
theorem insP_rd (q : Pf) : ∀ l : List Pf, (insP q l).map Pf.rd = insM q.rd (l.map Pf.rd)
  | [] => rfl
  | x :: l => by
    have ih := insP_rd q l
    simp only [insP, List.map_cons, insM]
    show List.map Pf.rd (if ltS q.s x.s = true then q :: x :: l else x :: insP q l) = if ltS q.s x.s = true then _ else _
    split
    · rfl
    · rw [← ih]; rfl
/-- In the order of the names, none twice. -/
def Srt (l : List Pf) : Prop := l.Pairwise (fun a b => ltS a.s b.s = true)
theorem Srt.ins {q : Pf} : ∀ {l : List Pf}, Srt l → (∀ x ∈ l, x.s ≠ q.s) → Srt (insP q l)
  | [], _, _ => by simp [Srt, insP]
  | x :: l, h, hn => by
    obtain ⟨h1, h2⟩ := List.pairwise_cons.1 h
    unfold insP
    split
    · next hlt =>
      refine List.pairwise_cons.2 ⟨fun y hy => ?_, h⟩
      rcases List.mem_cons.1 hy with rfl | hy
      · exact hlt
      · exact ltS_trans hlt (h1 y hy)
    · next hlt =>
      refine List.pairwise_cons.2 ⟨fun y hy => ?_, Srt.ins h2 (fun y hy => hn y (List.mem_cons_of_mem _ hy))⟩
      rcases mem_insP.1 hy with rfl | hy
      · exact (ltS_total (hn x (by simp))).resolve_right hlt
      · exact h1 y hy
theorem Srt.same {l : List Pf} (h : Srt l) {a b : Pf} (ha : a ∈ l) (hb : b ∈ l) (hs : a.s = b.s) : a = b := by
  induction l with
  | nil => cases ha
  | cons x l ih =>
    obtain ⟨h1, h2⟩ := List.pairwise_cons.1 h
    rcases List.mem_cons.1 ha with rfl | ha'
    · rcases List.mem_cons.1 hb with rfl | hb'
      · rfl
      · have := h1 b hb'
        rw [hs, ltS_irrefl] at this
        cases this
    · rcases List.mem_cons.1 hb with rfl | hb'
      · have := h1 a ha'
        rw [hs, ltS_irrefl] at this
        cases this
      · exact ih h2 ha' hb'
theorem Srt.at_ {l : List Pf} (h : Srt l) {i j : Nat} {a b : Pf} (ha : l[i]? = some a) (hb : l[j]? = some b) (hs : a.s = b.s) : i = j := by
  obtain ⟨hi, e1⟩ := List.getElem?_eq_some_iff.1 ha
  obtain ⟨hj, e2⟩ := List.getElem?_eq_some_iff.1 hb
  rcases Nat.lt_trichotomy i j with k | k | k
  · have := List.pairwise_iff_getElem.1 h i j hi hj k
    rw [e1, e2, hs, ltS_irrefl] at this
    cases this
  · exact k
  · have := List.pairwise_iff_getElem.1 h j i hj hi k
    rw [e1, e2, hs, ltS_irrefl] at this
    cases this
theorem findP_of {l : List Pf} (h : Srt l) {q : Pf} (hq : q ∈ l) : findP q.s l = some q := by
  cases hf : findP q.s l with
  | none => exact absurd rfl (findP_none hf q hq)
  | some x =>
    obtain ⟨h1, h2⟩ := findP_mem hf
    rw [h.same h1 hq h2]
/-- One file taken away. -/
def delP (s : ByteArray) (l : List Pf) : List Pf := l.filter (fun q => decide (q.s ≠ s))
theorem mem_delP {s : ByteArray} {l : List Pf} {x : Pf} : x ∈ delP s l ↔ x ∈ l ∧ x.s ≠ s := by simp [delP]
theorem Srt.del {s : ByteArray} {l : List Pf} (h : Srt l) : Srt (delP s l) := List.Pairwise.filter _ h
theorem del_Dm (s : ByteArray) (l : List Pf) : (Dm l).del (kOf s) = Dm (delP s l) := by
  unfold Dm ents DataW.del delP
  simp only [DataW.map.injEq]
  rw [List.filter_map]
  congr 1
  refine List.filter_congr fun q _ => ?_
  simp only [Function.comp, sameKey_kOf]
  by_cases h : q.s = s <;> simp [h]
theorem put_Dm {q : Pf} {l : List Pf} (h : ∀ x ∈ l, x.s ≠ q.s) : (Dm l).put (kOf q.s) (.held q.at_) = Dm (insP q l) := by
  unfold Dm DataW.put
  simp only [DataW.map.injEq]
  rw [← ents_ins]
  congr 1
  rw [List.filter_eq_self]
  intro x hx
  unfold ents at hx
  obtain ⟨y, hy, rfl⟩ := List.mem_map.1 hx
  simp only [sameKey_kOf]
  simp [h y hy]
theorem mem_setP {l : List Pf} (h : Srt l) {i : Nat} {q q' x : Pf} (hq : l[i]? = some q) (_hs : q'.s = q.s) (hx : x ∈ l.set i q') : x = q' ∨ (x ∈ l ∧ x.s ≠ q.s) := by
  obtain ⟨j, hj, e⟩ := List.mem_iff_getElem.1 hx
  have hj' : (l.set i q')[j]? = some x := by rw [List.getElem?_eq_getElem hj, e]
  by_cases hij : i = j
  · subst hij
    rw [List.getElem?_set_self (List.getElem?_eq_some_iff.1 hq).1] at hj'
    injection hj' with hj'
    exact .inl hj'.symm
  · rw [List.getElem?_set_ne hij] at hj'
    exact .inr ⟨List.mem_of_getElem? hj', fun e => hij (h.at_ hq hj' e.symm)⟩
theorem Srt.names {l l' : List Pf} (h : Srt l) (e : l'.map Pf.s = l.map Pf.s) : Srt l' := by
  have h1 : (l.map Pf.s).Pairwise (fun a b => ltS a b = true) := List.pairwise_map.2 h
  rw [← e] at h1
  exact List.pairwise_map.1 h1
theorem set_names {l : List Pf} {i : Nat} {q q' : Pf} (hq : l[i]? = some q) (hs : q'.s = q.s) : (l.set i q').map Pf.s = l.map Pf.s := by
  rw [List.map_set, hs]
  refine List.ext_getElem? fun j => ?_
  by_cases hij : i = j
  · subst hij
    rw [List.getElem?_set_self (by simpa using (List.getElem?_eq_some_iff.1 hq).1), List.getElem?_map, hq]
    rfl
  · rw [List.getElem?_set_ne hij]
theorem ents_set {l : List Pf} {i : Nat} {q q' : Pf} (hq : l[i]? = some q) (hs : q'.s = q.s) (hh : q'.h = q.h) : Dm (l.set i q') = Dm l := by
  unfold Dm ents
  rw [List.map_set]
  congr 1
  refine List.ext_getElem? fun j => ?_
  by_cases hij : i = j
  · subst hij
    rw [List.getElem?_set_self (by simpa using (List.getElem?_eq_some_iff.1 hq).1), List.getElem?_map, hq]
    simp [hs, Pf.at_, hh]
  · rw [List.getElem?_set_ne hij]
theorem findM_P {s : ByteArray} {l : List Pf} {q : Pf} (h : findP s l = some q) : ∃ i, findM s (l.map Pf.rd) = some i ∧ l[i]? = some q := by
  unfold findP at h
  unfold findM
  rw [List.findIdx?_map]
  rw [List.find?_eq_some_iff_getElem] at h
  obtain ⟨h1, i, hi, e, h2⟩ := h
  refine ⟨i, ?_, by rw [List.getElem?_eq_getElem hi, e]⟩
  rw [List.findIdx?_eq_some_iff_getElem]
  refine ⟨hi, ?_, fun j hj => ?_⟩
  · rw [e]
    exact h1
  · have := h2 j hj
    simp only [Bool.not_eq_true', decide_eq_false_iff_not] at this
    intro e2
    exact this (of_decide_eq_true e2)
theorem findM_none {s : ByteArray} {l : List Pf} (h : findP s l = none) : findM s (l.map Pf.rd) = none := by
  unfold findM
  rw [List.findIdx?_eq_none_iff]
  intro p hp
  obtain ⟨q, hq, rfl⟩ := List.mem_map.1 hp
  have := findP_none h q hq
  show decide (q.s = s) = false
  simpa using this
theorem findP_none_of {s : ByteArray} {l : List Pf} (h : ∀ q ∈ l, q.s ≠ s) : findP s l = none := by
  unfold findP
  rw [List.find?_eq_none]
  intro q hq
  simpa using h q hq

theorem bytesLess_lt : ∀ x y : List UInt8, Op.bytesLess x y = decide (x < y)
  | [], [] => by simp [Op.bytesLess]
  | _ :: _, [] => by simp [Op.bytesLess]
  | [], _ :: _ => by simp [Op.bytesLess]
  | a :: x, b :: y => by
    rw [Op.bytesLess, bytesLess_lt x y]
    simp only [List.cons_lt_cons_iff]
    by_cases h1 : a < b <;> by_cases h2 : a = b <;> by_cases h3 : x < y <;> simp [h1, h2, h3]
/-- The names, sorted. -/
def nameL (l : List Pf) : List (List UInt8) := l.map fun q => q.s.data.toList
theorem strKeys_Dm (l : List Pf) : strKeys (Dm l) = nameL l := by
  unfold strKeys Dm ents nameL
  simp only [List.map_map]
  rfl
theorem sorted_names {l : List Pf} (h : Srt l) {ss : List (List UInt8)} (hp : ss.Perm (strKeys (Dm l))) : ss.mergeSort (fun x y => decide (x ≤ y)) = nameL l := by
  have h1 := mergeSort_of_perm hp
  unfold leB at h1
  rw [h1, strKeys_Dm]
  refine List.mergeSort_of_pairwise ?_
  unfold nameL
  rw [List.pairwise_map]
  refine List.Pairwise.imp (fun {a b} hab => ?_) h
  rw [decide_eq_true_eq]
  have : a.s.data.toList < b.s.data.toList := by
    unfold ltS at hab
    rw [bytesLess_lt, ByteArray.toList_eq, ByteArray.toList_eq] at hab
    simpa using hab
  exact List.le_of_lt this

end Go.Proofs.Ytjacjafpeajhaaa
