/-
  Files and calls that come in, of a bulk that is told.
-/
import Derived.Test.YtjacjafpeajhaaaLast
namespace Go.Proofs.Ytjacjafpeajhaaa
open Go.ChangeShapes Go.WideShapes Go.ChangeAt Go.RowKit

section
variable {H : Type} {enc : TypeId × Value → H} {W : World} {fuel : Nat} {cs : List Value} {x : DataW H × List MemPlace}
set_option maxRecDepth 100000 in
theorem open_files_n (h : DataW.trod enc Try.prog W 0 (fun _ => true) true fuel 22 cs = some x) (hb : Rows.uptoBulk x.1 ≤ 1048576) (A : Option Addr) (n c : Nat) (hcs : cs = [.slice A n c]) : ∃ l, FsUp W A l n c ∧ sumM (l.map Fl.rd) + n ≤ Rows.uptoBulk x.1 := by
  obtain ⟨l, h1, h2, ds, h3, h4, h5, -⟩ := open_rows (α := Fl) Fl.cells 3 (fun _ => rfl) (by omega) cells48 Try.underlying22 h A n c hcs (fun q d => In W q.d.a q.d.l q.d.l.length q.d.c ∧ q.d.l.length + q.s.size + 1 ≤ Rows.uptoBulk d ∧ Rows.uptoBulk d ≤ 1048576) (fun m cs' y hy hy2 _ => by
    obtain ⟨q, e1, e2, _, e4, _⟩ := open_file hy
    exact ⟨q, e1, e2, e4, by omega⟩)
  have hall : ∀ q ∈ l, In W q.d.a q.d.l q.d.l.length q.d.c ∧ q.d.l.length ≤ 1048576 ∧ q.s.size ≤ 1048576 := fun q hq => by
    obtain ⟨i, hi, e⟩ := List.mem_iff_getElem.1 hq
    have := h4 i q (ds[i]'(by omega)) (by rw [List.getElem?_eq_getElem hi, e]) (List.getElem?_eq_getElem (by omega))
    exact ⟨this.1, by omega, by omega⟩
  have hs := bulk_add (fun q : Fl => q.d.l.length) l ds h3 (fun i q d a1 a2 => by have := (h4 i q d a1 a2).2.1; omega)
  have e : (l.map (fun q : Fl => q.d.l.length)).sum = sumM (l.map Fl.rd) := by
    unfold sumM
    rw [List.map_map]
    rfl
  rw [e] at hs
  exact ⟨l, ⟨⟨h1, h2, fun q hq => (hall q hq).1, by omega, fun q hq => by have := (hall q hq).2.1; omega, fun q hq => by have := (hall q hq).2.2; omega⟩, by omega⟩, by omega⟩
set_option maxRecDepth 100000 in
theorem open_acts_n (h : DataW.trod enc Try.prog W 0 (fun _ => true) true fuel 26 cs = some x) (hb : Rows.uptoBulk x.1 ≤ 1048576) (A : Option Addr) (n c : Nat) (hcs : cs = [.slice A n c]) : ∃ l, AcsUp W A l n c ∧ sumA l + n ≤ Rows.uptoBulk x.1 := by
  obtain ⟨l, h1, h2, ds, h3, h4, h5, -⟩ := open_rows (α := Ac) Ac.cells 7 (fun _ => rfl) (by omega) cells40 Try.underlying26 h A n c hcs (fun a d => AcIn W a ∧ a.d.l.length + 1 ≤ Rows.uptoBulk d) (fun m cs' y hy hy2 _ => open_act hy (by omega))
  have hs := bulk_add (fun a : Ac => a.d.l.length) l ds h3 (fun i q d a1 a2 => (h4 i q d a1 a2).2)
  refine ⟨l, ⟨h1, h2, fun a ha => ?_, ?_⟩, ?_⟩
  · obtain ⟨i, hi, e⟩ := List.mem_iff_getElem.1 ha
    exact (h4 i a (ds[i]'(by omega)) (by rw [List.getElem?_eq_getElem hi, e]) (List.getElem?_eq_getElem (by omega))).1
  · unfold sumA
    omega
  · unfold sumA
    omega
end

end Go.Proofs.Ytjacjafpeajhaaa
