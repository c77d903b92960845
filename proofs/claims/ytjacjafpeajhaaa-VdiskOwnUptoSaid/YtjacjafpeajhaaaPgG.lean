/-
  Walks: the names in their order; a new beginning; how many bytes survive.
-/
import Derived.Test.YtjacjafpeajhaaaPgF
namespace Go.Proofs.Ytjacjafpeajhaaa
open Go.RowKit
open Go.Maps Go.Sort Go.Shelf

/-- A row of texts of the call's own, or nil. -/
def Trow (w : World) (B : Nat) (A : Option Addr) (c : Nat) (T : List ByteArray) : Prop := w.ownsRow B 9 1 (.slice A T.length c) T.length (T.map Value.string)
theorem Trow.lies {w : World} {B : Nat} {A : Option Addr} {c : Nat} {T : List ByteArray} (h : Trow w B A c T) : Lies w A (T.map Value.string) := by
  rcases h.2 with ⟨_, h⟩ | ⟨g, cap, cur, e, _⟩
  · exact .inl (by rw [List.eq_nil_of_length_eq_zero h]; rfl)
  · injection e with e1 e2 e3
    subst e1
    exact .inr ⟨_, rfl, fun j u hu => World.ownsRow.cells h (g := g) rfl j u hu⟩

/-- The library's sort, at the fence that asks nothing. -/
theorem sorts_any (m : Nat) : AnyZ.SortsIn Try.prog Try.sorted67_ren Fence.wide m :=
  ⟨fun blk off cap ss W hH hblk hsz => callsIn_wide.2 (AnyM.slices_Sort_string Try.sort78 blk off cap ss W hH hblk hsz),
   fun p cap W => callsIn_wide.2 (AnyM.slices_Sort_string_none Try.sort78 p cap W)⟩
/-- The iterator over a map's keys. -/
theorem keys_any (mb : Option Nat) (W : World) : CallsIn Fence.wide 5 Try.prog 68 #[.map mb] W fun e w' => e = .returned (.func (.func 79) #[] #[.pointer (some ⟨W.heap.size, 0, none⟩)]) ∧ w' = W.alloc (.cells #[.map mb] 74) :=
  AnyZ.keys_in Try.keys68 Fence.wide 5 trivial rfl mb W

set_option maxHeartbeats 1000000 in
/-- The keys, sorted. -/
theorem sorted_any {H : Type} (b nn : Nat) (D0 : DataW H) (R : Value → Option (DataW H × List MemPlace)) (w : World) (hown : w.ownsMap Try.prog 9 R b nn D0) (hmax : Maps.size D0 ≤ maxLen) (hbytes : Maps.size D0 * 16 ≤ 140737488355328) :
    CallsIn Fence.wide 5 Try.prog 67 #[.func (.func 79) #[] #[.pointer (some ⟨w.heap.size, 0, none⟩)]] (w.alloc (.cells #[.map (some b)] 74)) fun e w' => ∃ (v : Value) (ss : List (List UInt8)), e = .returned v ∧ ss.Perm (strKeys D0) ∧
      w'.ownsRow (w.alloc (.cells #[.map (some b)] 74)).heap.size 9 1 v ss.length ((ss.mergeSort (fun x y => decide (x ≤ y))).map encStr) ∧ Below (w.alloc (.cells #[.map (some b)] 74)).heap.size (w.alloc (.cells #[.map (some b)] 74)) w' := by
  have hbl := hown.lt
  have hseq : SeqGives Fence.wide 2 Try.prog 79 #[.pointer (some ⟨w.heap.size, 0, none⟩)] encStr (fun ss => ss.Perm (strKeys D0)) (Maps.size D0) (w.alloc (.cells #[.map (some b)] 74)) :=
    AnyZ.keys_gives (ρ := Try.keys68_ren) { Try.keys68 with } Fence.wide _ trivial rfl (by omega) w.heap.size b nn D0 _ (by simp) (by simp) (by
      obtain ⟨es, clock, hb, Ft, hs, hD⟩ := hown
      exact ⟨es, clock, (Below.heap_alloc _ _ b hbl).trans hb, Ft, hs, hD⟩)
  refine (AnyZ.sorted_in Try.sorted67 Fence.wide 5 trivial trivial trivial trivial rfl (by omega) (sorts_any _) (enters_of Try.func78 (by kernel_rfl) rfl) 79 #[.pointer (some ⟨w.heap.size, 0, none⟩)] trivial (enters_of Try.func79 (by kernel_rfl) rfl) _ _ hmax hbytes _ hseq).mono ?_
  rintro e w' ⟨v, ss, h1, h2, h3, -, h5⟩
  exact ⟨v, ss, h1, h2, h3, h5⟩

theorem size_Dm (l : List Pf) : Maps.size (Dm l) = l.length := by
  unfold Dm ents Maps.size
  simp

/-- It answers texts in new memory. -/
def Texts7 (w : World) (T : List ByteArray) (e : Ending) (w' : World) : Prop := ∃ A c, e = .returned (.slice A T.length c) ∧ Trow w' w.heap.size A c T ∧ Below w.heap.size w w'

set_option maxHeartbeats 2000000 in
theorem names_any (B g : Nat) (p : Pk) (w : World) (h : PSt w B g p) (hl : p.l.length * 16 ≤ 140737488355328) :
    Calls Try.prog 44 #[.pointer (some ⟨g, 0, none⟩)] w (Texts7 w (p.l.map Pf.s)) := by
  have c0 := h.at_.cell.1
  have HM := Lib.hid (sorted_any p.b p.l.length (Dm p.l) ptrElem w h.inn.map (by rw [size_Dm]; unfold maxLen; omega) (by rw [size_Dm]; exact hl))
  have HS := Lib.hid h.inn.srt
  clear h
  refine (callsIn_wide (n := 6)).1 ?_
  have hfK : Fence.wide.fn 68 := trivial
  have hfS : Fence.wide.fn 67 := trivial
  refine callsIn_of_wp Try.func44 rfl trivial ?_ rfl
  simp only [Try.ntmps44, List.size_toArray, List.length_cons, List.length_nil, Nat.reduceAdd, Nat.reduceSub, Array.replicate_succ, Array.replicate_zero, List.push_toArray, List.append_toArray, List.nil_append, List.cons_append]
  gi_wp2_with (first
    | (gi_at_call 68; refine (keys_any _ _).mono ?_; rintro e w' ⟨rfl, rfl⟩)
    | (gi_at_call 67; refine HM.out.mono ?_; rintro e w' ⟨v, ss, rfl, hS, hrow, hb⟩; have E := Lib.hid (And.intro hS (And.intro hrow hb)); clear hS hrow hb))
  go_ret
  obtain ⟨hS, hrow, hb⟩ := E.out
  have e1 := sorted_names HS.out hS
  have e2 : (nameL p.l).map encStr = (p.l.map Pf.s).map Value.string := by
    unfold nameL
    rw [List.map_map, List.map_map]
    exact List.map_congr_left fun q _ => by simp [encStr]
  have e3 : ss.length = (p.l.map Pf.s).length := by
    rw [hS.length_eq, strKeys_Dm]
    simp [nameL]
  rw [e1, e2, e3] at hrow
  have hb' := ((Below.refl _ w).alloc (Nat.le_refl _) _).trans (hb.mono (by simp))
  have hrow' := own_mono (C := w.heap.size) hrow (by simp)
  rcases hrow'.2 with ⟨hn, hz⟩ | ⟨g', cap, cur, e', -⟩
  · subst hn
    have hz' : p.l.map Pf.s = [] := List.eq_nil_of_length_eq_zero hz
    rw [hz']
    exact ⟨none, 0, rfl, World.ownsRow_nil _ _ _ _, hb'⟩
  · subst e'
    exact ⟨some ⟨g', 0, none⟩, cap, rfl, hrow', hb'⟩

end Go.Proofs.Ytjacjafpeajhaaa
