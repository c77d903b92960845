/-
  What comes in, as the laws hold it; and what is answered, in plain terms. Entries, and lists of them, that come in. Walks: the law's first look. The laws: what is seen of any list; what is forgotten; any lists are merged. Plain: a list with towers: what stands at each height leads on to what is behind; the lowest leads to all. Plain: an entry is put among those of a list with towers. Memory: rows of nodes, sixteen cells each; rows of numbers. Entries and a list of whole numbers that come in, of a told bulk. Walks: a table in memory; what follows at the lowest height; is it ahead.
-/
import Derived.Lib.SlBytesConst
import Derived.Laws.EntriesVeiled
import Derived.Test.YtcffpkflijpdjaaJO03
import Derived.Test.YtcffpkflijpdjaaJO04
set_option linter.unusedSimpArgs false
set_option linter.unusedVariables false
namespace Go.Proofs.Ytcffpkflijpdjaa
open Go.RowKit
def FitE (x : Er) : Prop := -9223372036854775808 ≤ x.2.1 ∧ x.2.1 ≤ 9223372036854775807
/-- Entries that come in. -/
structure EF (w : World) (A : Option Addr) (l : List En) (n c : Nat) : Prop where
  len : l.length = n
  lies : Lies w A (evals l)
  ins : EIns w l
  few : n * 64 ≤ 140737488351232
  fit : ∀ x ∈ ers l, FitE x
  long : ∀ x ∈ ers l, x.1.length ≤ 140737488351232 ∧ x.2.2.2.length ≤ 140737488351232
theorem EF.kept {w w' : World} {A : Option Addr} {l : List En} {n c : Nat} (h : EF w A l n c) (hb : Below w.heap.size w w') : EF w' A l n c := ⟨h.len, h.lies.kept hb, h.ins.kept hb, h.few, h.fit, h.long⟩
theorem EF.longs {w : World} {A : Option Addr} {l : List En} {n c : Nat} (h : EF w A l n c) : ∀ q ∈ l, q.k.l.length ≤ 140737488351232 ∧ q.v.l.length ≤ 140737488351232 := fun q hq => h.long q.rd (List.mem_map_of_mem hq)
theorem EF.more {w w' : World} {A A' : Option Addr} {l l' : List En} {n c n' c' : Nat} (h : EF w A l n c) (hs : ∀ x ∈ ers l', x ∈ ers l) (hn : l'.length = n') (hle : n' ≤ n) (hl : Lies w' A' (evals l')) (hm : EIns w' l') : EF w' A' l' n' c' :=
  ⟨hn, hl, hm, Nat.le_trans (Nat.mul_le_mul_right _ hle) h.few, fun x hx => h.fit x (hs x hx), fun x hx => h.long x (hs x hx)⟩
/-- Lists that come in. -/
structure LF (w : World) (A : Option Addr) (Ls : List Gl) (n c : Nat) : Prop where
  ls : LsIn w A Ls n c
  few : n * 24 ≤ 140737488351232
  tot : (flat Ls).length * 64 ≤ 140737488351232
  fit : ∀ x ∈ flat Ls, FitE x
  long : ∀ x ∈ flat Ls, x.1.length ≤ 140737488351232 ∧ x.2.2.2.length ≤ 140737488351232
theorem LF.kept {w w' : World} {A : Option Addr} {Ls : List Gl} {n c : Nat} (h : LF w A Ls n c) (hb : Below w.heap.size w w') : LF w' A Ls n c :=
  ⟨⟨h.ls.len, h.ls.lies.kept hb, fun g hg => by have := h.ls.each g hg; exact ⟨this.1.kept hb, this.2.1.kept hb, this.2.2⟩⟩, h.few, h.tot, h.fit, h.long⟩
theorem in_flat {Ls : List Gl} {g : Gl} {q : En} (hg : g ∈ Ls) (hq : q ∈ g.l) : q.rd ∈ flat Ls := by
  rw [← flatE_ers]
  exact List.mem_map_of_mem (List.mem_flatten.2 ⟨g.l, List.mem_map_of_mem hg, hq⟩)
theorem len_flat {Ls : List Gl} {g : Gl} (hg : g ∈ Ls) : g.l.length ≤ (flat Ls).length := by
  rw [← flat_fl, ← ers_len]
  exact (List.sublist_flatten_of_mem (List.mem_map_of_mem (f := fun g : Gl => ers g.l) hg)).length_le
theorem LF.each {w : World} {A : Option Addr} {Ls : List Gl} {n c : Nat} (h : LF w A Ls n c) {g : Gl} (hg : g ∈ Ls) : EF w g.a g.l g.l.length g.c := by
  have h1 := h.ls.each g hg
  have h2 := len_flat hg
  have h3 := h.tot
  refine ⟨rfl, h1.1, h1.2.1, by omega, fun x hx => ?_, fun x hx => ?_⟩
  · obtain ⟨q, hq, rfl⟩ := List.mem_map.1 hx
    exact h.fit _ (in_flat hg hq)
  · obtain ⟨q, hq, rfl⟩ := List.mem_map.1 hx
    exact h.long _ (in_flat hg hq)
/-- Lists that a call has made. -/
theorem LF.made {w w' : World} {A A' : Option Addr} {Ls T : List Gl} {n c n' c' B : Nat} (h : LF w A Ls n c) (hf : (flat T).Sublist (flat Ls) ∨ (flat T).Perm (flat Ls)) (hn : T.length = n') (hle : n' * 24 ≤ 140737488351232) (hl : Lies w' A' (gvals T)) (hm : GMades w' B T) : LF w' A' T n' c' := by
  have hsub : ∀ x ∈ flat T, x ∈ flat Ls := fun x hx => hf.elim (fun h => h.subset hx) (fun h => h.mem_iff.1 hx)
  have hlen : (flat T).length ≤ (flat Ls).length := hf.elim (fun h => h.length_le) (fun h => by rw [h.length_eq]; exact Nat.le_refl _)
  have hbyt : ∀ x ∈ flat Ls, ErB x := fun x hx => by
    rw [← flat_fl] at hx
    obtain ⟨l, hl, hx⟩ := List.mem_flatten.1 hx
    obtain ⟨g, hg, rfl⟩ := List.mem_map.1 hl
    exact (h.ls.each g hg).2.1.byt x hx
  refine ⟨⟨hn, hl, fun g hg => ?_⟩, hle, by have := h.tot; omega, fun x hx => h.fit x (hsub x hx), fun x hx => h.long x (hsub x hx)⟩
  obtain ⟨h1, h2⟩ := hm g hg
  have hc := own_cap h1
  exact ⟨h1.lies, h2.ins (fun p hp => by
    obtain ⟨q, hq, rfl⟩ := List.mem_map.1 hp
    exact hbyt _ (hsub _ (in_flat hg hq))), hc.1, hc.2⟩
/-- What is answered of lists: it is this, and nothing else. -/
def AnsM (F : List (List Er)) (er : Int) (R : List Er) : Prop := (er = 30 ∧ R = [] ∧ ¬ ∀ l ∈ F, OrdL l) ∨ ((∀ l ∈ F, OrdL l) ∧ ((er = 0 ∧ OrdL R ∧ R.Perm F.flatten) ∨ (er = 31 ∧ R = [] ∧ ¬ Apt F.flatten)))
theorem pw_le {L : List Er} (h : OrdL L) : List.Pairwise leE L := (OrdL.pw.1 h).2.imp (fun h => by unfold leE; omega)
theorem AnsM.one {F : List (List Er)} {e1 e2 : Int} {R1 R2 : List Er} (h : AnsM F e1 R1) (k : AnsM F e2 R2) : e1 = e2 ∧ R1 = R2 := by
  rcases h with ⟨a1, a2, a3⟩ | ⟨a0, ⟨a1, a2, a3⟩ | ⟨a1, a2, a3⟩⟩ <;> rcases k with ⟨b1, b2, b3⟩ | ⟨b0, ⟨b1, b2, b3⟩ | ⟨b1, b2, b3⟩⟩
  · exact ⟨a1.trans b1.symm, a2.trans b2.symm⟩
  · exact absurd b0 a3
  · exact absurd b0 a3
  · exact absurd a0 b3
  · exact ⟨a1.trans b1.symm, sorted_one (OrdL.pw.1 a2).2 (pw_le b2) (a3.trans b3.symm)⟩
  · exact absurd ((apt_perm a3).1 (ordL_apt a2)) b3
  · exact absurd a0 b3
  · exact absurd ((apt_perm b3).1 (ordL_apt b2)) a3
  · exact ⟨a1.trans b1.symm, a2.trans b2.symm⟩
theorem AnsM.ok {F : List (List Er)} {R : List Er} (h : AnsM F 0 R) : (∀ l ∈ F, OrdL l) ∧ OrdL R ∧ R.Perm F.flatten := by
  rcases h with ⟨h, -⟩ | ⟨h0, ⟨-, h1⟩ | ⟨h, -⟩⟩
  · cases h
  · exact ⟨h0, h1⟩
  · cases h
theorem AnsM.no {F : List (List Er)} {er : Int} {R : List Er} (h : AnsM F er R) (h0 : er ≠ 0) : R = [] := by
  rcases h with ⟨_, h, _⟩ | ⟨_, ⟨h, _⟩ | ⟨_, h, _⟩⟩
  · exact h
  · exact absurd h h0
  · exact h
/-- Of entries that may be made one all that is picked may be. -/
theorem AnsM.part {F G : List (List Er)} {R S : List Er} {er : Int} (h : AnsM F 0 R) (hs : ∀ l ∈ G, OrdL l) (ha : ∃ H, (G.flatten ++ H).Perm F.flatten) (k : AnsM G er S) : er = 0 := by
  obtain ⟨_, h2, h3⟩ := h.ok
  obtain ⟨H, hH⟩ := ha
  have ap : Apt G.flatten := (List.pairwise_append.1 ((apt_perm (h3.trans hH.symm)).1 (ordL_apt h2))).1
  rcases k with ⟨_, _, k⟩ | ⟨_, ⟨k, _⟩ | ⟨_, _, k⟩⟩
  · exact absurd hs k
  · exact k
  · exact absurd ap k
theorem AnsM.turn {F G : List (List Er)} {R S : List Er} {er : Int} (h : AnsM F 0 R) (hp : G.Perm F) (k : AnsM G er S) : er = 0 ∧ S = R := by
  have e : er = 0 := h.part (fun l hl => h.ok.1 l (hp.mem_iff.1 hl)) ⟨[], by simpa using hp.flatten⟩ k
  subst e
  exact ⟨rfl, (sorted_one (OrdL.pw.1 k.ok.2.1).2 (pw_le h.ok.2.1) ((k.ok.2.2.trans hp.flatten).trans h.ok.2.2.symm))⟩
end Go.Proofs.Ytcffpkflijpdjaa
namespace Go.Proofs.Ytcffpkflijpdjaa
open Go.ChangeShapes Go.WideShapes Go.ChangeAt Go.RowKit
/-- What entries weigh. -/
def wE (q : En) : Nat := q.k.l.length + q.v.l.length + 4
theorem sum_mem {α : Type} (f : α → Nat) : ∀ {l : List α} {x : α}, x ∈ l → f x ≤ (l.map f).sum
  | [], _, h => by cases h
  | y :: l, x, h => by
    rw [List.map_cons, List.sum_cons]
    rcases List.mem_cons.1 h with e | e
    · subst e; omega
    · have := sum_mem f e; omega
end Go.Proofs.Ytcffpkflijpdjaa
namespace Go.Proofs.Ytcffpkflijpdjaa
open Go.RowKit
theorem one_conv (x : Int) (W : World) : (convert 23 23 (.slice (some ⟨W.heap.size, 0, none⟩) 1 1)).run Try.prog (W.alloc (.cells #[.int .u8 x] 5)) = .ok (.slice (some ⟨W.heap.size, 0, none⟩) 1 1) (W.alloc (.cells #[.int .u8 x] 5 (1, 2))) :=
  Lib.run_convert_bytes_const (P := Try.prog) W 23 5 #[.int .u8 x] 1 1 Try.underlying23 Try.underlying5
theorem one_at {W : World} {g : Nat} {x : Int} {t : TypeId} {fr : Nat × Nat} (hh : W.heap[g]? = some (.cells #[.int .u8 x] t fr)) (h : 0 ≤ x ∧ x < 256) : In W (some ⟨g, 0, none⟩) [x] 1 1 := by
  refine ⟨rfl, Nat.le_refl _, by omega, .inr ⟨_, rfl, fun j y hy => ?_⟩, fun y hy => by rw [List.mem_singleton.1 hy]; exact h⟩
  rw [add_head]
  cases j with
  | zero =>
    simp at hy
    subst hy
    unfold World.cell?
    simp only
    rw [hh]
    rfl
  | succ j => simp at hy
theorem row_lies {W : World} {g : Nat} {cs : Array Value} {vs : List Value} {t : TypeId} {fr : Nat × Nat} (hh : W.heap[g]? = some (.cells cs t fr)) (e : cs.toList = vs) : Lies W (some ⟨g, 0, none⟩) vs := by
  refine .inr ⟨_, rfl, fun j u hu => ?_⟩
  rw [add_head]
  unfold World.cell?
  simp only
  rw [hh]
  subst e
  simpa using hu
/-- The law's own three entries. -/
def L3 : List Er := [([97], 5, false, [120]), ([97], 3, true, []), ([97], 2, false, [])]
def l3 (z : Nat) : List En := [⟨⟨some ⟨z, 0, none⟩, 1, [97]⟩, 5, false, ⟨some ⟨z + 1, 0, none⟩, 1, [120]⟩⟩, ⟨⟨some ⟨z + 2, 0, none⟩, 1, [97]⟩, 3, true, ⟨none, 0, []⟩⟩, ⟨⟨some ⟨z + 3, 0, none⟩, 1, [97]⟩, 2, false, ⟨none, 0, []⟩⟩]
/-- They lie. -/
def At3 (z : Nat) (W : World) : Prop := W.heap[z]? = some (.cells #[.int .u8 97] 5 (1, 2)) ∧ W.heap[z + 1]? = some (.cells #[.int .u8 120] 5 (1, 2)) ∧ W.heap[z + 2]? = some (.cells #[.int .u8 97] 5 (1, 2)) ∧ W.heap[z + 3]? = some (.cells #[.int .u8 97] 5 (1, 2)) ∧ W.heap[z + 4]? = some (.cells #[.slice (some ⟨z, 0, none⟩) 1 1, .int .i64 5, .bool false, .slice (some ⟨z + 1, 0, none⟩) 1 1, .slice (some ⟨z + 2, 0, none⟩) 1 1, .int .i64 3, .bool true, .slice none 0 0, .slice (some ⟨z + 3, 0, none⟩) 1 1, .int .i64 2, .bool false, .slice none 0 0] 26 (0, 0))
theorem At3.kept {z : Nat} {W W' : World} (h : At3 z W) (hb : Below W.heap.size W W') : At3 z W' :=
  ⟨obj_kept h.1 hb (Nat.le_refl _), obj_kept h.2.1 hb (Nat.le_refl _), obj_kept h.2.2.1 hb (Nat.le_refl _), obj_kept h.2.2.2.1 hb (Nat.le_refl _), obj_kept h.2.2.2.2 hb (Nat.le_refl _)⟩
theorem L3_small : ∀ x ∈ L3, FitE x ∧ x.1.length ≤ 140737488351232 ∧ x.2.2.2.length ≤ 140737488351232 := fun x hx => by
  simp only [L3, List.mem_cons, List.mem_nil_iff, or_false] at hx
  unfold FitE
  rcases hx with rfl | rfl | rfl <;> refine ⟨⟨by simp, by simp⟩, by simp, by simp⟩
theorem At3.ef {z : Nat} {W : World} (h : At3 z W) : EF W (some ⟨z + 4, 0, none⟩) (l3 z) 3 3 := by
  obtain ⟨h0, h1, h2, h3, h4⟩ := h
  refine ⟨rfl, row_lies h4 rfl, fun q hq => ?_, by decide, fun x hx => (L3_small x hx).1, fun x hx => (L3_small x hx).2⟩
  simp only [l3, List.mem_cons, List.mem_nil_iff, or_false] at hq
  rcases hq with rfl | rfl | rfl
  · exact ⟨one_at h0 (by decide), one_at h1 (by decide)⟩
  · exact ⟨one_at h2 (by decide), in_nil W⟩
  · exact ⟨one_at h3 (by decide), in_nil W⟩
theorem At3.head {z : Nat} {W : World} (h : At3 z W) : EF W (some ⟨z + 4, 0, none⟩) ((l3 z).take 1) 1 3 :=
  h.ef.more (fun x hx => by rw [ers_take] at hx; exact List.mem_of_mem_take hx) rfl (by omega) (lies_take h.ef.lies 1) (fun q hq => h.ef.ins q (List.mem_of_mem_take hq))
theorem At3.tail {z : Nat} {W : World} (h : At3 z W) : EF W (some ⟨z + 4, 4, none⟩) ((l3 z).drop 1) 2 2 :=
  h.ef.more (fun x hx => by rw [ers_drop] at hx; exact List.mem_of_mem_drop hx) rfl (by omega) (lies_drop (c := 3) h.ef.lies 1 (Nat.le_refl 3)) (fun q hq => h.ef.ins q (List.mem_of_mem_drop hq))
end Go.Proofs.Ytcffpkflijpdjaa
namespace Go.Proofs.Ytcffpkflijpdjaa
open Go.RowKit
theorem sameEns {w : World} {A B : Option Addr} {l m : List En} {n c n' c' : Nat} (hn : l.length = n) (hn' : m.length = n') (h1 : Lies w A (evals l)) (h2 : Lies w B (evals m)) (i1 : EIns w l) (i2 : EIns w m) (he : ers l = ers m) (hl : n * 64 ≤ 140737488351232) :
    Calls Try.prog 24 #[.slice A n c, .slice B n' c'] w fun e w' => e = .returned (.bool true) ∧ Below w.heap.size w w' := by
  refine (refSame_any A B l m n n' c c' w hn hn' h1 h2 i1 i2 (by omega)).mono ?_
  rintro e w' ⟨rfl, hb⟩
  exact ⟨by rw [decide_eq_true he], hb⟩
theorem ansM_mem {F : List (List Er)} {er : Int} {R : List Er} (h : AnsM F er R) : (∀ x ∈ R, x ∈ F.flatten) ∧ R.length ≤ F.flatten.length := by
  rcases h with ⟨_, h, _⟩ | ⟨_, ⟨_, _, h⟩ | ⟨_, h, _⟩⟩
  · subst h; exact ⟨(fun x hx => by cases hx), Nat.zero_le _⟩
  · exact ⟨fun x hx => h.mem_iff.1 hx, by rw [h.length_eq]; exact Nat.le_refl _⟩
  · subst h; exact ⟨(fun x hx => by cases hx), Nat.zero_le _⟩
theorem LF.byt {w : World} {A : Option Addr} {Ls : List Gl} {n c : Nat} (h : LF w A Ls n c) : ∀ x ∈ (fl Ls).flatten, ErB x := fun x hx => by
  obtain ⟨l, hl, hx⟩ := List.mem_flatten.1 hx
  obtain ⟨g, hg, rfl⟩ := List.mem_map.1 hl
  exact (h.ls.each g hg).2.1.byt x hx
/-- What is answered may be read, and asked again. -/
theorem LF.out {w w' : World} {A A' : Option Addr} {Ls : List Gl} {n c m c' : Nat} {er : Int} {M : List En} (h : LF w A Ls n c) (ha : AnsM (fl Ls) er (ers M)) (hm : M.length = m) (hl : Lies w' A' (evals M)) (hi : EIns w' M) : EF w' A' M m c' := by
  obtain ⟨h1, h2⟩ := ansM_mem ha
  rw [flat_fl] at h1 h2
  rw [ers_len, hm] at h2
  have := h.tot
  exact ⟨hm, hl, hi, by omega, fun x hx => h.fit x (h1 x hx), fun x hx => h.long x (h1 x hx)⟩
end Go.Proofs.Ytcffpkflijpdjaa
namespace Go.Proofs.Ytcffpkflijpdjaa
open Go.RowKit
/-- A node: its entry and its tower. -/
structure Nd where
  e : En
  t : List Nat
def nx (N : List Nd) (h i : Nat) : Nat := match N[i]? with
  | none => 0
  | some q => q.t.getD h 0
def eo (N : List Nd) (i : Nat) : Er := match N[i]? with
  | none => ([], 0, false, [])
  | some q => q.e.rd
theorem nx_of {N : List Nd} {i : Nat} {q : Nd} (h : N[i]? = some q) (j : Nat) : nx N j i = q.t.getD j 0 := by unfold nx; rw [h]
theorem eo_of {N : List Nd} {i : Nat} {q : Nd} (h : N[i]? = some q) : eo N i = q.e.rd := by unfold eo; rw [h]
/-- One behind the other, at the lowest height. -/
def Chn (N : List Nd) : Nat → List Nat → Prop
  | p, [] => nx N 0 p = 0
  | p, c :: C => nx N 0 p = c ∧ c ≠ 0 ∧ Chn N c C
structure Skip (N : List Nd) (C : List Nat) : Prop where
  pos : 1 ≤ N.length
  asc : ∀ h i, h < 12 → i < N.length → nx N h i = 0 ∨ (nx N h i < N.length ∧ (i = 0 ∨ ordE (eo N i) (eo N (nx N h i)) < 0))
  chain : Chn N 0 C
  all : ∀ j, j ∈ C ↔ 1 ≤ j ∧ j < N.length
  good : ∀ j, j ∈ C → GoodE (eo N j)
def cont (N : List Nd) (C : List Nat) : List Er := C.map (eo N)
theorem chn_sorted {N : List Nd} (ha : ∀ i, i < N.length → nx N 0 i = 0 ∨ (nx N 0 i < N.length ∧ (i = 0 ∨ ordE (eo N i) (eo N (nx N 0 i)) < 0))) : ∀ (C : List Nat) (p : Nat), p < N.length → Chn N p C → List.Pairwise (fun x y => ordE x y < 0) (cont N C) ∧ (p ≠ 0 → ∀ c ∈ C, ordE (eo N p) (eo N c) < 0)
  | [], _, _, _ => ⟨List.Pairwise.nil, fun _ _ h => by cases h⟩
  | c :: C, p, hp, h => by
    obtain ⟨h1, h2, h3⟩ := h
    have hc : c < N.length := by
      rcases ha p hp with h | ⟨h, -⟩
      · omega
      · omega
    obtain ⟨i1, i2⟩ := chn_sorted ha C c hc h3
    have i3 := i2 h2
    refine ⟨List.pairwise_cons.2 ⟨fun y hy => ?_, i1⟩, fun hp0 z hz => ?_⟩
    · obtain ⟨d, hd, rfl⟩ := List.mem_map.1 hy
      exact i3 d hd
    · have hpc : ordE (eo N p) (eo N c) < 0 := by
        rcases ha p hp with h | ⟨-, h | h⟩
        · omega
        · omega
        · rwa [h1] at h
      rcases List.mem_cons.1 hz with e | e
      · rw [e]; exact hpc
      · exact ordE_trans hpc (i3 z e)
theorem Skip.asc0 {N : List Nd} {C : List Nat} (h : Skip N C) : ∀ i, i < N.length → nx N 0 i = 0 ∨ (nx N 0 i < N.length ∧ (i = 0 ∨ ordE (eo N i) (eo N (nx N 0 i)) < 0)) := fun i hi => h.asc 0 i (by omega) hi
theorem Skip.sorted {N : List Nd} {C : List Nat} (h : Skip N C) : OrdL (cont N C) :=
  OrdL.pw.2 ⟨fun e he => by obtain ⟨j, hj, rfl⟩ := List.mem_map.1 he; exact h.good j hj, (chn_sorted h.asc0 C 0 h.pos h.chain).1⟩
theorem chn_split {N : List Nd} : ∀ {C : List Nat} {p a : Nat}, Chn N p C → a ∈ C → ∃ C1 C2, C = C1 ++ a :: C2 ∧ Chn N a C2
  | c :: C, p, a, h, ha => by
    obtain ⟨h1, h2, h3⟩ := h
    by_cases e : a = c
    · subst e; exact ⟨[], C, rfl, h3⟩
    · obtain ⟨C1, C2, e1, e2⟩ := chn_split h3 ((List.mem_cons.1 ha).resolve_left e)
      exact ⟨c :: C1, C2, by rw [e1]; rfl, e2⟩
/-- The place where an entry belongs. -/
structure Plc (N : List Nd) (C : List Nat) (x : Er) (a : Nat) (C1 C2 : List Nat) : Prop where
  cut : C = C1 ++ C2
  low : ∀ c ∈ C1, ordE (eo N c) x < 0
  high : ∀ c ∈ C2, ¬ ordE (eo N c) x < 0
  last : (C1 = [] ∧ a = 0) ∨ C1.getLast? = some a
  next : Chn N a C2
theorem place {N : List Nd} {C : List Nat} {x : Er} {a : Nat} (h : Skip N C) (ha : a < N.length) (h1 : a = 0 ∨ ordE (eo N a) x < 0) (h2 : nx N 0 a = 0 ∨ ¬ ordE (eo N (nx N 0 a)) x < 0) : ∃ C1 C2, Plc N C x a C1 C2 := by
  have hs := chn_sorted h.asc0 C 0 h.pos h.chain
  have hhigh : ∀ C2, Chn N a C2 → ∀ c ∈ C2, ¬ ordE (eo N c) x < 0 := fun C2 hC c hc => by
    cases C2 with
    | nil => cases hc
    | cons d D =>
      obtain ⟨e1, e2, e3⟩ := hC
      have hd : ¬ ordE (eo N d) x < 0 := by
        rcases h2 with h2 | h2
        · omega
        · rwa [e1] at h2
      rcases List.mem_cons.1 hc with e | e
      · rw [e]; exact hd
      · have hdl : d < N.length := by
          rcases h.asc0 a ha with q | ⟨q, -⟩
          · omega
          · omega
        have := (chn_sorted h.asc0 D d hdl e3).2 e2 c e
        intro hlt
        exact hd (ordE_trans this hlt)
  by_cases h0 : a = 0
  · subst h0
    exact ⟨[], C, rfl, fun c hc => (by cases hc), hhigh C h.chain, .inl ⟨rfl, rfl⟩, h.chain⟩
  · have hx := h1.resolve_left h0
    obtain ⟨C1, C2, e, hc⟩ := chn_split h.chain ((h.all a).2 ⟨by omega, ha⟩)
    refine ⟨C1 ++ [a], C2, by rw [e]; simp, fun c hm => ?_, hhigh C2 hc, .inr (by simp), hc⟩
    rcases List.mem_append.1 hm with hm | hm
    · have hp := hs.1
      rw [e, cont, List.map_append, List.pairwise_append] at hp
      exact ordE_trans (hp.2.2 _ (List.mem_map_of_mem hm) (eo N a) (by simp)) hx
    · rw [List.mem_singleton.1 hm]; exact hx
theorem Plc.map {N : List Nd} {C : List Nat} {x : Er} {a : Nat} {C1 C2 : List Nat} (h : Plc N C x a C1 C2) : cont N C = cont N C1 ++ cont N C2 := by rw [h.cut]; simp [cont]
/-- A tower is turned. -/
def setT (N : List Nd) (i h v : Nat) : List Nd := match N[i]? with
  | none => N
  | some q => N.set i ⟨q.e, q.t.set h v⟩
theorem setT_len (N : List Nd) (i h v : Nat) : (setT N i h v).length = N.length := by unfold setT; split <;> simp
theorem setT_eo (N : List Nd) (i h v j : Nat) : eo (setT N i h v) j = eo N j := by
  unfold setT
  split
  · rfl
  · next q hq =>
    unfold eo
    by_cases e : i = j
    · subst e
      rw [List.getElem?_set_self (List.getElem?_eq_some_iff.1 hq).1, hq]
    · rw [List.getElem?_set_ne e]
def Tall (N : List Nd) : Prop := ∀ q ∈ N, q.t.length = 12
theorem setT_tall {N : List Nd} (hN : Tall N) (i h v : Nat) : Tall (setT N i h v) := fun q hq => by
  unfold setT at hq
  split at hq
  · exact hN q hq
  · next p hp =>
    rcases List.mem_or_eq_of_mem_set hq with e | e
    · exact hN q e
    · rw [e]; simp only [List.length_set]; exact hN p (List.mem_of_getElem? hp)
theorem setT_nx {N : List Nd} (hN : Tall N) {i h v : Nat} (hi : i < N.length) (hh : h < 12) (g j : Nat) : nx (setT N i h v) g j = if j = i ∧ g = h then v else nx N g j := by
  have hq := List.getElem?_eq_getElem hi
  have ht := hN _ (List.getElem_mem hi)
  generalize N[i] = q at hq ht
  unfold setT
  rw [hq]
  unfold nx
  by_cases e : i = j
  · subst e
    simp only [List.getElem?_set_self hi, hq, true_and]
    by_cases e2 : g = h
    · subst e2
      rw [if_pos rfl, List.getD_eq_getElem?_getD, List.getElem?_set_self (by omega)]
      rfl
    · rw [if_neg e2, List.getD_eq_getElem?_getD, List.getElem?_set_ne (fun q => e2 q.symm), ← List.getD_eq_getElem?_getD]
  · simp only [List.getElem?_set_ne e]
    rw [if_neg (fun q => e q.1.symm)]
/-- Some towers are turned, each at its height, to one that comes. -/
def raise (N : List Nd) (la : List Nat) (v : Nat) : Nat → List Nd
  | 0 => N
  | j + 1 => setT (raise N la v j) (la.getD j 0) j v
theorem raise_len (N : List Nd) (la : List Nat) (v j : Nat) : (raise N la v j).length = N.length := by
  induction j with
  | zero => rfl
  | succ j ih => rw [raise, setT_len, ih]
theorem raise_eo (N : List Nd) (la : List Nat) (v j i : Nat) : eo (raise N la v j) i = eo N i := by
  induction j with
  | zero => rfl
  | succ j ih => rw [raise, setT_eo, ih]
theorem raise_tall {N : List Nd} (hN : Tall N) (la : List Nat) (v j : Nat) : Tall (raise N la v j) := by
  induction j with
  | zero => exact hN
  | succ j ih => rw [raise]; exact setT_tall ih _ _ _
theorem raise_nx {N : List Nd} (hN : Tall N) {la : List Nat} {v j : Nat} (hl : ∀ h, h < 12 → la.getD h 0 < N.length) (hj : j ≤ 12) (g i : Nat) : nx (raise N la v j) g i = if g < j ∧ i = la.getD g 0 then v else nx N g i := by
  induction j with
  | zero => rw [if_neg (by omega)]; rfl
  | succ j ih =>
    have ih := ih (by omega)
    rw [raise, setT_nx (raise_tall hN _ _ _) (by rw [raise_len]; exact hl j (by omega)) (by omega), ih]
    by_cases e : i = la.getD j 0 ∧ g = j
    · obtain ⟨e1, e2⟩ := e
      subst e2
      rw [if_pos ⟨e1, rfl⟩, if_pos ⟨by omega, e1⟩]
    · rw [if_neg e]
      by_cases e3 : g < j ∧ i = la.getD g 0
      · rw [if_pos e3, if_pos ⟨by omega, e3.2⟩]
      · rw [if_neg e3, if_neg (fun q => by
          by_cases e4 : g = j
          · subst e4; exact e ⟨q.2, rfl⟩
          · exact e3 ⟨by omega, q.2⟩)]
/-- The tower of what is put. -/
def towerOf (N : List Nd) (la : List Nat) (j : Nat) : List Nat := (List.range 12).map (fun h => if h < j then nx N h (la.getD h 0) else 0)
theorem towerOf_get (N : List Nd) (la : List Nat) (j h : Nat) (hh : h < 12) : (towerOf N la j).getD h 0 = if h < j then nx N h (la.getD h 0) else 0 := by
  unfold towerOf
  rw [List.getD_eq_getElem?_getD, List.getElem?_map, List.getElem?_range hh]
  rfl
theorem towerOf_len (N : List Nd) (la : List Nat) (j : Nat) : (towerOf N la j).length = 12 := by simp [towerOf]
def putN (N : List Nd) (la : List Nat) (j : Nat) (x : En) : List Nd := raise N la N.length j ++ [⟨x, towerOf N la j⟩]
theorem chn_keep {N N' : List Nd} : ∀ {C : List Nat} {p : Nat}, Chn N p C → (∀ i, i = p ∨ i ∈ C → nx N' 0 i = nx N 0 i) → Chn N' p C
  | [], p, h, hk => (hk p (.inl rfl)).trans h
  | c :: C, p, h, hk => ⟨(hk p (.inl rfl)).trans h.1, h.2.1, chn_keep h.2.2 (fun i hi => hk i (.inr (hi.elim (fun e => by rw [e]; exact List.mem_cons_self ..) (List.mem_cons_of_mem _))))⟩
theorem chn_join {N : List Nd} : ∀ {C1 C2 : List Nat} {p a : Nat}, Chn N p (C1 ++ C2) → ((C1 = [] ∧ a = p) ∨ C1.getLast? = some a) → ∀ {N' : List Nd} {D : List Nat}, (∀ i, (i = p ∨ i ∈ C1) → i ≠ a → nx N' 0 i = nx N 0 i) → Chn N' a D → (a ∉ C1.dropLast) → (C1 ≠ [] → a ≠ p) → Chn N' p (C1 ++ D)
  | [], C2, p, a, h, hl, N', D, hk, hD, hn, hp => by
    rcases hl with ⟨-, rfl⟩ | hl
    · exact hD
    · simp at hl
  | c :: C1, C2, p, a, h, hl, N', D, hk, hD, hn, hp => by
    have hl := hl.resolve_left (fun q => by cases q.1)
    obtain ⟨h1, h2, h3⟩ := h
    have hpa : p ≠ a := fun e => hp (by simp) e.symm
    refine ⟨(hk p (.inl rfl) hpa).trans h1, h2, ?_⟩
    cases C1 with
    | nil =>
      simp at hl
      subst hl
      exact hD
    | cons d C1 =>
      rw [List.getLast?_cons_cons] at hl
      have hn' : a ≠ c ∧ a ∉ (d :: C1).dropLast := by
        simp only [List.dropLast_cons_cons, List.mem_cons, not_or] at hn
        exact ⟨hn.1, hn.2⟩
      exact chn_join (C1 := d :: C1) h3 (.inr hl) (fun i hi ha => hk i (.inr (hi.elim (fun e => by rw [e]; exact List.mem_cons_self ..) (List.mem_cons_of_mem _))) ha) hD hn'.2 (fun _ => hn'.1)
end Go.Proofs.Ytcffpkflijpdjaa
namespace Go.Proofs.Ytcffpkflijpdjaa
open Go.RowKit
/-- What is known of the last ones ahead of an entry. -/
def LastOk (N : List Nd) (x : Er) (la : List Nat) : Prop := ∀ h, h < 12 → la.getD h 0 < N.length ∧ (la.getD h 0 = 0 ∨ ordE (eo N (la.getD h 0)) x < 0) ∧ (nx N h (la.getD h 0) = 0 ∨ ¬ ordE (eo N (nx N h (la.getD h 0))) x < 0)
theorem no_equal {N : List Nd} {C C1 C2 : List Nat} {x : Er} {a : Nat} (h : Skip N C) (hp : Plc N C x a C1 C2) (hne : nx N 0 a = 0 ∨ ordE (eo N (nx N 0 a)) x ≠ 0) : ∀ c ∈ C, ordE (eo N c) x ≠ 0 := fun c hc => by
  rw [hp.cut] at hc
  rcases List.mem_append.1 hc with hc | hc
  · have := hp.low c hc; omega
  · have hs := hp.next
    have hhi := hp.high
    cases C2 with
    | nil => cases hc
    | cons d D =>
      obtain ⟨e1, e2, e3⟩ := hs
      have hd : ordE (eo N d) x ≠ 0 := by
        rcases hne with h | h
        · omega
        · rwa [e1] at h
      have hd2 := hhi d (List.mem_cons_self ..)
      rcases List.mem_cons.1 hc with e | e
      · rw [e]; exact hd
      · have hdl : d < N.length := ((h.all d).1 (by rw [hp.cut]; simp)).2
        have h1 := (chn_sorted h.asc0 D d hdl e3).2 e2 c e
        have h2 := ordE_flip (eo N d) x
        have h3 : ordE x (eo N d) < 0 := by omega
        have h4 := ordE_trans h3 h1
        have h5 := ordE_flip (eo N c) x
        omega
theorem putN_len (N : List Nd) (la : List Nat) (j : Nat) (x : En) : (putN N la j x).length = N.length + 1 := by unfold putN; rw [List.length_append, raise_len]; rfl
theorem putN_eo {N : List Nd} {la : List Nat} {j : Nat} {x : En} {i : Nat} (hi : i < N.length) : eo (putN N la j x) i = eo N i := by
  rw [← raise_eo N la N.length j i]
  unfold putN eo
  rw [List.getElem?_append_left (by rw [raise_len]; exact hi)]
theorem putN_eo_new (N : List Nd) (la : List Nat) (j : Nat) (x : En) : eo (putN N la j x) N.length = x.rd := by
  unfold putN eo
  rw [List.getElem?_append_right (by rw [raise_len]; exact Nat.le_refl _), raise_len]
  simp
theorem putN_nx {N : List Nd} {la : List Nat} {j : Nat} {x : En} {i h : Nat} (hN : Tall N) (hl : ∀ h, h < 12 → la.getD h 0 < N.length) (hj : j ≤ 12) (hi : i < N.length) : nx (putN N la j x) h i = if h < j ∧ i = la.getD h 0 then N.length else nx N h i := by
  rw [← raise_nx hN hl hj]
  unfold putN nx
  rw [List.getElem?_append_left (by rw [raise_len]; exact hi)]
theorem putN_nx_new (N : List Nd) (la : List Nat) (j : Nat) (x : En) (h : Nat) (hh : h < 12) : nx (putN N la j x) h N.length = if h < j then nx N h (la.getD h 0) else 0 := by
  rw [← towerOf_get N la j h hh]
  unfold putN nx
  rw [List.getElem?_append_right (by rw [raise_len]; exact Nat.le_refl _), raise_len]
  simp
theorem putN_tall {N : List Nd} (hN : Tall N) (la : List Nat) (j : Nat) (x : En) : Tall (putN N la j x) := fun q hq => by
  rcases List.mem_append.1 hq with e | e
  · exact raise_tall hN _ _ _ q e
  · rw [List.mem_singleton.1 e]; exact towerOf_len N la j
theorem put_skip {N : List Nd} {C la : List Nat} {x : En} {j : Nat} (hN : Tall N) (h : Skip N C) (hl : LastOk N x.rd la) (hne : nx N 0 (la.getD 0 0) = 0 ∨ ordE (eo N (nx N 0 (la.getD 0 0))) x.rd ≠ 0) (h1 : 1 ≤ j) (hj : j ≤ 12) (hg : GoodE x.rd) : ∃ C', Skip (putN N la j x) C' ∧ (cont (putN N la j x) C').Perm (x.rd :: cont N C) := by
  obtain ⟨l1, l2, l3⟩ := hl 0 (by omega)
  obtain ⟨C1, C2, hp⟩ := place h l1 l2 l3
  have hneq := no_equal h hp hne
  have hll : ∀ h, h < 12 → la.getD h 0 < N.length := fun h hh => (hl h hh).1
  obtain ⟨a, ha⟩ : ∃ a, la.getD 0 0 = a := ⟨_, rfl⟩
  rw [ha] at hp l1 l2 l3
  have hin : ∀ c, c ∈ C1 ∨ c ∈ C2 → 1 ≤ c ∧ c < N.length := fun c hc => (h.all c).1 (by rw [hp.cut]; exact List.mem_append.2 hc)
  have ha2 : a ∉ C2 := fun hm => by
    have h2 := hp.high a hm
    rcases l2 with e | e
    · have := (hin a (.inr hm)).1; omega
    · exact h2 e
  have hstep : ∀ i, i < N.length → i ≠ a → nx (putN N la j x) 0 i = nx N 0 i := fun i hi hia => by
    rw [putN_nx hN hll hj hi, if_neg (fun q => hia (q.2.trans ha))]
  have hnew : nx (putN N la j x) 0 N.length = nx N 0 a := by rw [putN_nx_new _ _ _ _ _ (by omega), if_pos (by omega), ha]
  have hchain : Chn (putN N la j x) 0 (C1 ++ N.length :: C2) := by
    refine chn_join (C2 := C2) (by rw [← hp.cut]; exact h.chain) hp.last (fun i hi hia => hstep i ?_ hia) ⟨?_, by have := h.pos; omega, ?_⟩ ?_ ?_
    · rcases hi with e | e
      · rw [e]; exact h.pos
      · exact (hin i (.inl e)).2
    · rw [putN_nx hN hll hj l1, if_pos ⟨by omega, ha.symm⟩]
    · have hnx := hp.next
      cases C2 with
      | nil => exact hnew.trans hnx
      | cons d D =>
        obtain ⟨e1, e2, e3⟩ := hnx
        exact ⟨hnew.trans e1, e2, chn_keep e3 (fun i hi => hstep i (hin i (.inr (by rcases hi with e | e <;> simp [e]))).2 (fun e => ha2 (by subst e; rcases hi with e | e <;> simp [e])))⟩
    · intro hm
      rcases hp.last with ⟨e, -⟩ | e
      · subst e; cases hm
      · obtain ⟨D, rfl⟩ := List.getLast?_eq_some_iff.1 e
        rw [List.dropLast_concat] at hm
        have hs := (chn_sorted h.asc0 C 0 h.pos h.chain).1
        rw [hp.cut, cont, List.map_append, List.map_append, List.append_assoc, List.pairwise_append] at hs
        have := hs.2.2 _ (List.mem_map_of_mem hm) (eo N a) (by simp)
        rw [ordE_self] at this
        omega
    · intro hc
      rcases hp.last with ⟨e, -⟩ | e
      · exact absurd e hc
      · have := (hin a (.inl (List.mem_of_getLast? e))).1
        omega
  refine ⟨C1 ++ N.length :: C2, ⟨by rw [putN_len]; omega, fun g i hg12 hi => ?_, hchain, fun k => ?_, fun k hk => ?_⟩, ?_⟩
  · rw [putN_len] at hi ⊢
    by_cases hin' : i = N.length
    · subst hin'
      rw [putN_nx_new _ _ _ _ _ hg12]
      by_cases hgj : g < j
      · rw [if_pos hgj]
        obtain ⟨m1, m2, m3⟩ := hl g hg12
        rcases h.asc g _ hg12 m1 with q | ⟨q, -⟩
        · exact .inl q
        · by_cases q0 : nx N g (la.getD g 0) = 0
          · exact .inl q0
          · refine .inr ⟨by omega, .inr ?_⟩
            rw [putN_eo_new, putN_eo q]
            have e1 := m3.resolve_left q0
            have e2 := hneq _ ((h.all _).2 ⟨by omega, q⟩)
            have e3 := ordE_flip (eo N (nx N g (la.getD g 0))) x.rd
            omega
      · rw [if_neg hgj]; exact .inl rfl
    · have hi' : i < N.length := by omega
      rw [putN_nx hN hll hj hi']
      by_cases hc : g < j ∧ i = la.getD g 0
      · rw [if_pos hc]
        refine .inr ⟨by omega, ?_⟩
        rw [putN_eo_new, putN_eo hi', hc.2]
        exact (hl g hg12).2.1
      · rw [if_neg hc]
        rcases h.asc g i hg12 hi' with q | ⟨q1, q2⟩
        · exact .inl q
        · exact .inr ⟨by omega, by rw [putN_eo hi', putN_eo q1]; exact q2⟩
  · rw [putN_len]
    constructor
    · intro hk
      rcases List.mem_append.1 hk with e | e
      · have := hin k (.inl e); omega
      · rcases List.mem_cons.1 e with e | e
        · have := h.pos; omega
        · have := hin k (.inr e); omega
    · rintro ⟨k1, k2⟩
      by_cases e : k = N.length
      · subst e; simp
      · have := (h.all k).2 ⟨k1, by omega⟩
        rw [hp.cut] at this
        rcases List.mem_append.1 this with e | e
        · exact List.mem_append_left _ e
        · exact List.mem_append_right _ (List.mem_cons_of_mem _ e)
  · rcases List.mem_append.1 hk with e | e
    · rw [putN_eo (hin k (.inl e)).2]; exact h.good k (by rw [hp.cut]; exact List.mem_append_left _ e)
    · rcases List.mem_cons.1 e with e | e
      · rw [e, putN_eo_new]; exact hg
      · rw [putN_eo (hin k (.inr e)).2]; exact h.good k (by rw [hp.cut]; exact List.mem_append_right _ e)
  · have e1 : cont (putN N la j x) C1 = cont N C1 := List.map_congr_left (fun c hc => putN_eo (hin c (.inl hc)).2)
    have e2 : cont (putN N la j x) C2 = cont N C2 := List.map_congr_left (fun c hc => putN_eo (hin c (.inr hc)).2)
    have e3 : cont (putN N la j x) (C1 ++ N.length :: C2) = cont N C1 ++ x.rd :: cont N C2 := by
      rw [← e1, ← e2]
      unfold cont
      rw [List.map_append, List.map_cons, putN_eo_new]
    rw [e3, hp.map]
    exact List.perm_middle
/-- Those that are behind, as a measure of a way on. -/
def behindC (N : List Nd) (C : List Nat) (p : Nat) : Nat := (C.filter (fun c => decide (p = 0) || decide (ordE (eo N p) (eo N c) < 0))).length
theorem behind_less {N : List Nd} {C : List Nat} (h : Skip N C) {p g : Nat} (hg : g < 12) (hp : p < N.length) (h0 : nx N g p ≠ 0) : behindC N C (nx N g p) < behindC N C p := by
  rcases h.asc g p hg hp with q | ⟨q1, q2⟩
  · exact absurd q h0
  · have hm : nx N g p ∈ C := (h.all _).2 ⟨by omega, q1⟩
    unfold behindC
    obtain ⟨C1, C2, e⟩ := List.append_of_mem hm
    have hle : ∀ D : List Nat, (D.filter (fun c => decide (nx N g p = 0) || decide (ordE (eo N (nx N g p)) (eo N c) < 0))).length ≤ (D.filter (fun c => decide (p = 0) || decide (ordE (eo N p) (eo N c) < 0))).length := fun D => by
      induction D with
      | nil => simp
      | cons c D ih =>
        rw [List.filter_cons, List.filter_cons]
        by_cases hc : (decide (nx N g p = 0) || decide (ordE (eo N (nx N g p)) (eo N c) < 0)) = true
        · have hc2 : (decide (p = 0) || decide (ordE (eo N p) (eo N c) < 0)) = true := by
            rw [Bool.or_eq_true, decide_eq_true_iff, decide_eq_true_iff] at hc ⊢
            have hlt := hc.resolve_left h0
            exact q2.imp id (fun q => ordE_trans q hlt)
          rw [if_pos hc, if_pos hc2, List.length_cons, List.length_cons]
          omega
        · rw [if_neg hc]
          split
          · rw [List.length_cons]; omega
          · exact ih
    rw [e, List.filter_append, List.filter_append, List.length_append, List.length_append, List.filter_cons, List.filter_cons]
    have k1 := hle C1
    have k2 := hle C2
    have k3 : ¬ (decide (nx N g p = 0) || decide (ordE (eo N (nx N g p)) (eo N (nx N g p)) < 0)) = true := by
      rw [Bool.or_eq_true, decide_eq_true_iff, decide_eq_true_iff, ordE_self]
      omega
    have k4 : (decide (p = 0) || decide (ordE (eo N p) (eo N (nx N g p)) < 0)) = true := by
      rw [Bool.or_eq_true, decide_eq_true_iff, decide_eq_true_iff]
      exact q2
    rw [if_neg k3, if_pos k4, List.length_cons]
    omega
end Go.Proofs.Ytcffpkflijpdjaa
namespace Go.Proofs.Ytcffpkflijpdjaa
open Go.RowKit
def zNode : Value := .agg #[.slice none 0 0, .int .i64 0, .bool false, .slice none 0 0, .int .i64 0, .int .i64 0, .int .i64 0, .int .i64 0, .int .i64 0, .int .i64 0, .int .i64 0, .int .i64 0, .int .i64 0, .int .i64 0, .int .i64 0, .int .i64 0]
theorem info93 : (Try.prog.info? 93).map (fun i => (i.zero, i.size, i.bytes)) = some (some zNode, 16, 160) := by kernel_rfl
/-- A tower's cells. -/
def tvals (t : List Nat) : List Value := (List.range 12).map (fun h => .int .i64 ((t.getD h 0 : Nat) : Int))
theorem tvals_len (t : List Nat) : (tvals t).length = 12 := by simp [tvals]
theorem tvals_get (t : List Nat) {h : Nat} (hh : h < 12) : (tvals t)[h]? = some (.int .i64 ((t.getD h 0 : Nat) : Int)) := by
  unfold tvals
  rw [List.getElem?_map, List.getElem?_range hh]
  rfl
theorem tvals_set {t : List Nat} (ht : t.length = 12) {h : Nat} (hh : h < 12) (v : Nat) : (tvals t).set h (.int .i64 (v : Int)) = tvals (t.set h v) := by
  refine List.ext_getElem? (fun j => ?_)
  by_cases hj : j < 12
  · rw [tvals_get _ hj]
    by_cases e : h = j
    · subst e
      rw [List.getElem?_set_self (by rw [tvals_len]; exact hj), List.getD_eq_getElem?_getD, List.getElem?_set_self (by omega)]
      rfl
    · rw [List.getElem?_set_ne e, tvals_get _ hj, List.getD_eq_getElem?_getD, List.getD_eq_getElem?_getD, List.getElem?_set_ne e]
  · rw [List.getElem?_eq_none (by rw [List.length_set, tvals_len]; omega), List.getElem?_eq_none (by rw [tvals_len]; omega)]
def Nd.cells (q : Nd) : List Value := q.e.cells ++ tvals q.t
theorem Nd.cells_len (q : Nd) : q.cells.length = 16 := by unfold Nd.cells; rw [List.length_append, tvals_len]; rfl
def nvals (N : List Nd) : List Value := N.flatMap Nd.cells
theorem nvals_append (N M : List Nd) : nvals (N ++ M) = nvals N ++ nvals M := by simp [nvals]
theorem nvals_len : ∀ N : List Nd, (nvals N).length = N.length * 16
  | [] => rfl
  | q :: N => by
    have := nvals_len N
    unfold nvals at this ⊢
    rw [List.flatMap_cons, List.length_append, this, Nd.cells_len, List.length_cons]
    omega
theorem tvals_one {t : List Nat} : ∀ u ∈ tvals t, u.oneCell' = true := fun u hu => by
  obtain ⟨x, -, rfl⟩ := List.mem_map.1 hu
  rfl
theorem nvals_one {N : List Nd} : ∀ u ∈ nvals N, u.oneCell' = true := fun u hu => by
  obtain ⟨q, -, h⟩ := List.mem_flatMap.1 hu
  rcases List.mem_append.1 h with h | h
  · simp [En.cells] at h
    rcases h with rfl | rfl | rfl | rfl <;> rfl
  · exact tvals_one u h
theorem nvals_get : ∀ (N : List Nd) (i : Nat) (q : Nd), N[i]? = some q → ∀ j, j < 16 → (nvals N)[i * 16 + j]? = q.cells[j]?
  | [], _, _, h, _, _ => by simp at h
  | p :: N, 0, q, h, j, hj => by
    simp at h
    subst h
    unfold nvals
    rw [List.flatMap_cons, List.getElem?_append_left (by rw [Nd.cells_len]; omega), Nat.zero_mul, Nat.zero_add]
  | p :: N, i + 1, q, h, j, hj => by
    have ih := nvals_get N i q (by simpa using h) j hj
    unfold nvals at ih ⊢
    rw [List.flatMap_cons, List.getElem?_append_right (by rw [Nd.cells_len]; omega), Nd.cells_len, ← ih]
    congr 1
    omega
theorem nvals_set : ∀ (N : List Nd) (i : Nat) (p q : Nd) (j : Nat) (v : Value), N[i]? = some p → j < 16 → p.cells.set j v = q.cells → (nvals N).set (i * 16 + j) v = nvals (N.set i q)
  | [], _, _, _, _, _, h, _, _ => by simp at h
  | x :: N, 0, p, q, j, v, h, hj, he => by
    simp at h
    subst h
    unfold nvals
    rw [List.set_cons_zero, List.flatMap_cons, List.flatMap_cons, Nat.zero_mul, Nat.zero_add, List.set_append_left _ _ (by rw [Nd.cells_len]; omega), he]
  | x :: N, i + 1, p, q, j, v, h, hj, he => by
    have ih := nvals_set N i p q j v (by simpa using h) hj he
    unfold nvals at ih ⊢
    rw [List.set_cons_succ, List.flatMap_cons, List.flatMap_cons, List.set_append_right _ _ (by rw [Nd.cells_len]; omega), Nd.cells_len, ← ih]
    congr 2
    omega
/-- The cells of one node, as a walk spells them. -/
def AtN (w : World) (E : Addr) (q : Nd) : Prop := AtE w E q.e ∧ ∀ h, h < 12 → w.cell? ⟨E.block, E.off + 4 + h, none⟩ = some (.int .i64 ((q.t.getD h 0 : Nat) : Int))
theorem lies_node {w : World} {A : Option Addr} {N : List Nd} {i : Nat} {q : Nd} (h : Lies w A (nvals N)) (hq : N[i]? = some q) : ∃ ad, A = some ad ∧ AtN w (ad.add (i * 16)) q := by
  have hg := nvals_get N i q hq
  have g0 : (nvals N)[i * 16]? = some q.e.k.val := by have := hg 0 (by omega); simpa [Nd.cells, En.cells] using this
  have g1 : (nvals N)[i * 16 + 1]? = some (.int .i64 q.e.s) := by have := hg 1 (by omega); simpa [Nd.cells, En.cells] using this
  have g2 : (nvals N)[i * 16 + 2]? = some (.bool q.e.d) := by have := hg 2 (by omega); simpa [Nd.cells, En.cells] using this
  have g3 : (nvals N)[i * 16 + 3]? = some q.e.v.val := by have := hg 3 (by omega); simpa [Nd.cells, En.cells] using this
  have g4 : ∀ h, h < 12 → (nvals N)[i * 16 + (4 + h)]? = some (.int .i64 ((q.t.getD h 0 : Nat) : Int)) := fun h hh => by
    rw [hg (4 + h) (by omega)]
    unfold Nd.cells
    rw [List.getElem?_append_right (by simp [En.cells])]
    have : 4 + h - q.e.cells.length = h := by simp [En.cells]
    rw [this, tvals_get _ hh]
  rcases h with h | ⟨ad, rfl, h2⟩
  · rw [h] at g0
    simp at g0
  · refine ⟨ad, rfl, ⟨?_, ?_, ?_, ?_⟩, fun h hh => ?_⟩
    · simpa [Sl.val] using h2 _ _ g0
    · have := h2 _ _ g1
      rw [← add_add] at this
      simpa [Addr.add, Sl.val] using this
    · have := h2 _ _ g2
      rw [← add_add] at this
      simpa [Addr.add, Sl.val] using this
    · have := h2 _ _ g3
      rw [← add_add] at this
      simpa [Addr.add, Sl.val] using this
    · have := h2 _ _ (g4 h hh)
      rw [← add_add] at this
      have e : (ad.add (i * 16)).add (4 + h) = ⟨(ad.add (i * 16)).block, (ad.add (i * 16)).off + (4 + h), none⟩ := by
        unfold Addr.add
        rw [if_neg (by omega)]
      rw [e] at this
      rwa [Nat.add_assoc]
theorem lies_node_at {w : World} {ad : Addr} {N : List Nd} {i : Nat} {q : Nd} (h : Lies w (some ad) (nvals N)) (hq : N[i]? = some q) : AtN w (ad.add (i * 16)) q := by
  obtain ⟨ad', e, h'⟩ := lies_node h hq
  injection e with e
  subst e
  exact h'
/-- A row of nodes of the table's own. -/
def Nrow (w : World) (B : Nat) (A : Option Addr) (c : Nat) (N : List Nd) : Prop := w.ownsRow B 93 16 (.slice A N.length c) N.length (nvals N)
theorem Nrow.lies {w : World} {B : Nat} {A : Option Addr} {c : Nat} {N : List Nd} (h : Nrow w B A c N) : Lies w A (nvals N) := by
  rcases h.2 with ⟨_, h⟩ | ⟨g, cap, cur, e, _⟩
  · exact .inl (by rw [List.eq_nil_of_length_eq_zero h]; rfl)
  · injection e with e1 e2 e3
    subst e1
    exact .inr ⟨_, rfl, fun j u hu => World.ownsRow.cells h (g := g) rfl j u hu⟩
theorem Nrow.place {w : World} {B : Nat} {A : Option Addr} {c : Nat} {N : List Nd} (h : Nrow w B A c N) (h0 : 1 ≤ N.length) : ∃ g, A = some ⟨g, 0, none⟩ ∧ B ≤ g ∧ g < w.heap.size ∧ ∃ cs, w.heap[g]? = some (.cells cs 93 (0, 0)) := by
  rcases h.2 with ⟨_, h⟩ | ⟨g, cap, cur, e, h1, h2, _⟩
  · omega
  · injection e with e1 e2 e3
    exact ⟨g, e1, h1, (Array.getElem?_eq_some_iff.1 h2).1, _, h2⟩
theorem Nrow.turn {w : World} {B : Nat} {A : Option Addr} {c g i h : Nat} {N : List Nd} (hr : Nrow w B A c N) (hA : A = some ⟨g, 0, none⟩) (hN : Tall N) (hi : i < N.length) (hh : h < 12) : (∃ u, w.cell? ⟨g, i * 16 + (4 + h), none⟩ = some u) ∧ w.frozen? ⟨g, i * 16 + (4 + h), none⟩ = false ∧ ∀ v : Nat, Nrow (w.setCell ⟨g, i * 16 + (4 + h), none⟩ (.int .i64 (v : Int))) B A c (setT N i h v) := by
  subst hA
  have hq := List.getElem?_eq_getElem hi
  have ht := hN _ (List.getElem_mem hi)
  generalize N[i] = q at hq ht
  have hr' := hr
  unfold Nrow at hr'
  refine ⟨?_, hr'.frozenAt _, fun v => ?_⟩
  · rw [hr'.cellAt _ (by omega)]
    rw [nvals_get N i q hq (4 + h) (by omega)]
    exact ⟨_, List.getElem?_eq_getElem (by rw [Nd.cells_len]; omega)⟩
  · have := (hr'.stored (i * 16 + (4 + h)) (.int .i64 (v : Int))).1
    unfold Nrow
    rw [setT_len]
    have e : setT N i h v = N.set i ⟨q.e, q.t.set h v⟩ := by unfold setT; rw [hq]
    rw [nvals_set N i q ⟨q.e, q.t.set h v⟩ (4 + h) _ hq (by omega) (by
      unfold Nd.cells
      rw [List.set_append_right _ _ (by simp [En.cells])]
      have : 4 + h - q.e.cells.length = h := by simp [En.cells]
      rw [this, tvals_set ht hh]), ← e] at this
    exact this
theorem run_append_nrow (w : World) (ty : TypeId) (B : Nat) (A : Option Addr) (c : Nat) (T U : List Nd) (C : Option Addr) (cm : Nat) (h : Nrow w B A c T) (hm : Lies w C (nvals U)) (hB : B ≤ w.heap.size) (hr : (T.length + U.length) * 160 ≤ 140737488355328) :
    ∃ A' c' w', (Builtin.append_ #[94, 94] ty #[.slice A T.length c, .slice C U.length cm]).run Try.prog w = .ok (.slice A' (T.length + U.length) c') w' ∧ Nrow w' B A' c' (T ++ U) ∧ Below B w w' ∧ w.grownBy w' (Value.slice A T.length c).ownBlock := by
  obtain ⟨i, hi, hz0, hz1, hz2⟩ := info_parts info93
  obtain ⟨A', c', w', r, h2, h3, h4⟩ := run_append_grown (P := Try.prog) w 94 ty 93 i zNode 16 160 Try.underlying94 hi hz0 hz1 hz2 rfl (by decide) B A T.length c (nvals T) h C U.length cm (nvals U) (by rw [nvals_len]) hm nvals_one (by unfold maxLen; omega) hr hB
  rw [← nvals_append] at h2
  exact ⟨A', c', w', r, by unfold Nrow; rw [List.length_append]; exact h2, h3, h4⟩
/-- Numbers, as they lie. -/
def ivals (L : List Int) : List Value := L.map (fun x => .int .i64 x)
theorem ivals_len (L : List Int) : (ivals L).length = L.length := by simp [ivals]
theorem ivals_one {L : List Int} : ∀ u ∈ ivals L, u.oneCell' = true := fun u hu => by
  obtain ⟨x, -, rfl⟩ := List.mem_map.1 hu
  rfl
def Irow (w : World) (B : Nat) (A : Option Addr) (c : Nat) (L : List Int) : Prop := w.ownsRow B 3 1 (.slice A L.length c) L.length (ivals L)
theorem Irow.nil (w : World) (B : Nat) : Irow w B none 0 [] := World.ownsRow_nil w B _ _
theorem Irow.lies {w : World} {B : Nat} {A : Option Addr} {c : Nat} {L : List Int} (h : Irow w B A c L) : Lies w A (ivals L) := by
  rcases h.2 with ⟨_, h⟩ | ⟨g, cap, cur, e, _⟩
  · exact .inl (by rw [List.eq_nil_of_length_eq_zero h]; rfl)
  · injection e with e1 e2 e3
    subst e1
    exact .inr ⟨_, rfl, fun j u hu => World.ownsRow.cells h (g := g) rfl j u hu⟩
theorem lies_int {w : World} {A : Option Addr} {L : List Int} {j : Nat} {x : Int} (h : Lies w A (ivals L)) (hq : L[j]? = some x) : ∃ ad, A = some ad ∧ w.cell? (ad.add j) = some (.int .i64 x) := by
  have h0 : (ivals L)[j]? = some (.int .i64 x) := by simp [ivals, hq]
  rcases h with h | ⟨ad, rfl, h2⟩
  · rw [h] at h0; simp at h0
  · exact ⟨ad, rfl, h2 _ _ h0⟩
end Go.Proofs.Ytcffpkflijpdjaa
namespace Go.Proofs.Ytcffpkflijpdjaa
open Go.ChangeShapes Go.WideShapes Go.ChangeAt Go.RowKit
theorem cells3w : Try.prog.cellsOf 3 = 1 := by kernel_rfl
/-- Entries of a told bulk. -/
structure EUp (w : World) (A : Option Addr) (l : List En) (n c : Nat) : Prop where
  ef : EF w A l n c
  few : n ≤ 1048576
/-- Whole numbers of a told bulk. -/
structure NsUp (w : World) (A : Option Addr) (H : List Int) (n : Nat) : Prop where
  lies : Lies w A (ivals H)
  len : H.length = n
  few : n ≤ 1048576
section
variable {H : Type} {enc : TypeId × Value → H} {W : World} {fuel : Nat} {cs : List Value} {x : DataW H × List MemPlace}
theorem open_ef_up (h : DataW.trod enc Try.prog W 0 (fun _ => true) true fuel 22 cs = some x) (hb : Rows.uptoBulk x.1 ≤ 1048576) (A : Option Addr) (n c : Nat) (hcs : cs = [.slice A n c]) : ∃ l, EUp W A l n c := by
  obtain ⟨l, h1, -, h2, ds, h3, h4, h5, -⟩ := open_rows (α := En) En.cells 4 (fun _ => rfl) (by omega) cells26 Try.underlying22 h A n c hcs (fun q d => (In W q.k.a q.k.l q.k.l.length q.k.c ∧ In W q.v.a q.v.l q.v.l.length q.v.c) ∧ EFit q ∧ wE q + 1 ≤ Rows.uptoBulk d) (fun m cs' y hy _ _ => by
    obtain ⟨q, e1, e2, e3, e4, _⟩ := open_entry hy
    exact ⟨q, e1, e2, e3, by unfold wE; omega⟩)
  have hall : ∀ q ∈ l, (In W q.k.a q.k.l q.k.l.length q.k.c ∧ In W q.v.a q.v.l q.v.l.length q.v.c) ∧ EFit q := fun q hq => by
    obtain ⟨i, hi, e⟩ := List.mem_iff_getElem.1 hq
    have := h4 i q (ds[i]'(by omega)) (by rw [List.getElem?_eq_getElem hi, e]) (List.getElem?_eq_getElem (by omega))
    exact ⟨this.1, this.2.1⟩
  have hs := bulk_add wE l ds h3 (fun i q d a1 a2 => (h4 i q d a1 a2).2.2)
  refine ⟨l, ⟨h1, h2, fun q hq => (hall q hq).1, by omega, fun z hz => ?_, fun z hz => ?_⟩, by omega⟩
  · obtain ⟨q, hq, rfl⟩ := List.mem_map.1 hz
    exact (hall q hq).2
  · obtain ⟨q, hq, rfl⟩ := List.mem_map.1 hz
    have h9 := sum_mem wE hq
    have e1 : wE q = q.k.l.length + q.v.l.length + 4 := rfl
    have e2 : q.rd.1 = q.k.l := rfl
    have e3 : q.rd.2.2.2 = q.v.l := rfl
    rw [e2, e3]
    omega
theorem open_nums_up (h : DataW.trod enc Try.prog W 0 (fun _ => true) true fuel 37 cs = some x) (hb : Rows.uptoBulk x.1 ≤ 1048576) (A : Option Addr) (n c : Nat) (hcs : cs = [.slice A n c]) : ∃ l, NsUp W A l n := by
  obtain ⟨l, h1, -, h2, ds, h3, h4, h5, -⟩ := open_rows (α := Int) (fun k => [.int .i64 k]) 1 (fun _ => rfl) (by omega) cells3w Try.underlying37 h A n c hcs (fun _ d => 0 + 1 ≤ Rows.uptoBulk d) (fun m cs' y hy _ _ => by
    obtain ⟨k, e1, e2, e3⟩ := open_num hy
    refine ⟨k, e1, ?_⟩
    cases y.1 with
    | lit l => cases l <;> simp [Rows.uptoBulk]
    | nil => simp [Rows.uptoBulk]
    | ptr d => simp [Rows.uptoBulk]
    | slice elems spare => simp [Rows.uptoBulk]
    | agg parts => simp [Rows.uptoBulk]
    | iface t d => simp [Rows.uptoBulk]
    | map entries => simp [Rows.uptoBulk]
    | held h => simp [Rows.uptoBulk])
  have hs := bulk_add (fun _ : Int => 0) l ds h3 (fun i q d a1 a2 => h4 i q d a1 a2)
  have e : l.flatMap (fun k => [(.int .i64 k : Value)]) = ivals l := by
    clear h1 h2 h3 h4 hs
    induction l with
    | nil => rfl
    | cons g l ih => rw [List.flatMap_cons, ih]; rfl
  rw [e] at h2
  exact ⟨l, h2, h1, by omega⟩
end
end Go.Proofs.Ytcffpkflijpdjaa
namespace Go.Proofs.Ytcffpkflijpdjaa
open Go.RowKit
/-- A table: where it lies, its heights, its nodes, and the way through them. -/
structure MT where
  b : Nat
  hA : Option Addr
  hc : Nat
  hs : List Int
  nA : Option Addr
  nc : Nat
  ns : List Nd
  cs : List Nat
/-- The blocks that are the table's. -/
def MT.own (t : MT) (g : Nat) : Prop := g = t.b ∨ SlB t.hA g ∨ SlB t.nA g ∨ ∃ q ∈ t.ns, SlB q.e.k.a g ∨ SlB q.e.v.a g
/-- What the table holds. -/
def MT.has (t : MT) : List Er := cont t.ns t.cs
structure MTab (w : World) (t : MT) : Prop where
  obj : w.heap[t.b]? = some (.cells #[.slice t.hA t.hs.length t.hc, .slice t.nA t.ns.length t.nc] 96 (0, 0))
  hrow : Irow w 0 t.hA t.hc t.hs
  nrow : Nrow w 0 t.nA t.nc t.ns
  made : ∀ q ∈ t.ns, Row w 0 q.e.k.a q.e.k.c q.e.k.l ∧ Row w 0 q.e.v.a q.e.v.c q.e.v.l ∧ ErB q.e.rd
  tall : Tall t.ns
  skip : Skip t.ns t.cs
theorem own_same {w w' : World} {B : Nat} {e : TypeId} {size : Nat} {A : Option Addr} {n c m : Nat} {xs : List Value} (h : w.ownsRow B e size (.slice A n c) m xs) (hs : ∀ g, SlB A g → w'.heap[g]? = w.heap[g]?) : w'.ownsRow B e size (.slice A n c) m xs := by
  refine ⟨h.1, ?_⟩
  rcases h.2 with hn | ⟨g, cap, cur, e1, h1, h2, h3⟩
  · exact .inl hn
  · injection e1 with e1 e2 e3
    subst e1 e2 e3
    exact .inr ⟨g, c, cur, rfl, h1, (hs g ⟨_, rfl, rfl⟩).trans h2, h3⟩
theorem MTab.same {w w' : World} {t : MT} (h : MTab w t) (hs : ∀ g, t.own g → w'.heap[g]? = w.heap[g]?) : MTab w' t :=
  ⟨(hs _ (.inl rfl)).trans h.obj, own_same h.hrow (fun g hg => hs g (.inr (.inl hg))), own_same h.nrow (fun g hg => hs g (.inr (.inr (.inl hg)))), fun q hq => ⟨own_same (h.made q hq).1 (fun g hg => hs g (.inr (.inr (.inr ⟨q, hq, .inl hg⟩)))), own_same (h.made q hq).2.1 (fun g hg => hs g (.inr (.inr (.inr ⟨q, hq, .inr hg⟩)))), (h.made q hq).2.2⟩, h.tall, h.skip⟩
theorem MTab.in_ {w : World} {t : MT} (h : MTab w t) : ∀ g, t.own g → g < w.heap.size := fun g hg => by
  rcases hg with rfl | ⟨ad, e, rfl⟩ | ⟨ad, e, rfl⟩ | ⟨q, hq, ⟨ad, e, rfl⟩ | ⟨ad, e, rfl⟩⟩
  · exact (Array.getElem?_eq_some_iff.1 h.obj).1
  · exact (own_in h.hrow ad e).2
  · exact (own_in h.nrow ad e).2
  · exact (own_in (h.made q hq).1 ad e).2
  · exact (own_in (h.made q hq).2.1 ad e).2
theorem MTab.kept {w w' : World} {t : MT} (h : MTab w t) (hb : Below w.heap.size w w') : MTab w' t := h.same (fun g hg => hb.block g (h.in_ g hg))
theorem MTab.node {w : World} {t : MT} (h : MTab w t) {i : Nat} (hi : i < t.ns.length) : ∃ (ad : Addr) (q : Nd), t.nA = some ad ∧ t.ns[i]? = some q ∧ AtN w (ad.add (i * 16)) q ∧ EIn w q.e ∧ ∀ g, nx t.ns g i = q.t.getD g 0 := by
  have hq := List.getElem?_eq_getElem hi
  generalize t.ns[i] = q at hq
  obtain ⟨ad, e, hat⟩ := lies_node h.nrow.lies hq
  obtain ⟨h1, h2, h3⟩ := h.made q (List.mem_of_getElem? hq)
  exact ⟨ad, q, e, hq, hat, ⟨h1.in_ h3.1, h2.in_ h3.2⟩, fun g => nx_of hq g⟩
theorem MTab.cells {w : World} {t : MT} (h : MTab w t) : w.cell? ⟨t.b, 0, none⟩ = some (.slice t.hA t.hs.length t.hc) ∧ w.cell? ⟨t.b, 1, none⟩ = some (.slice t.nA t.ns.length t.nc) := by
  refine ⟨?_, ?_⟩ <;> simp [World.cell?, h.obj]
set_option maxRecDepth 100000 in
set_option maxHeartbeats 4000000 in
theorem mnext_any {w : World} {t : MT} (h : MTab w t) {i : Nat} (hi : i < t.ns.length) : Calls Try.prog 52 #[.pointer (some ⟨t.b, 0, none⟩), .int .i64 i] w fun e w' => e = .returned (.int .i64 (nx t.ns 0 i)) ∧ w' = w := by
  obtain ⟨ad, q, hA, hq, ⟨-, hT⟩, -, hN⟩ := h.node hi
  obtain ⟨-, c1⟩ := h.cells
  have c2 := hT 0 (by omega)
  rw [← hN 0, Nat.add_zero] at c2
  rw [hA] at c1
  obtain ⟨v, hv⟩ : ∃ v, nx t.ns 0 i = v := ⟨_, rfl⟩
  obtain ⟨n, hn⟩ : ∃ n, t.ns.length = n := ⟨_, rfl⟩
  rw [hv] at c2 ⊢
  rw [hn] at c1 hi
  have i0 : (i : Int) < n := by omega
  clear h hA hq hT hN hv hn
  go_enter Try.func52, Try.ntmps52
  go_wp2_with fail
  go_ret
  exact ⟨rfl, rfl⟩
end Go.Proofs.Ytcffpkflijpdjaa
