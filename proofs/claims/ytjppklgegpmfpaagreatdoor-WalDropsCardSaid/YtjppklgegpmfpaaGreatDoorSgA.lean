/-
  Plain: a disk that has segments, and no other files: what its calls answer and leave.
-/
import Derived.Test.YtjppklgegpmfpaaGreatDoorWgA
import Derived.Test.YtjppklgegpmfpaaGreatDoorPgR
import Derived.Test.YtjppklgegpmfpaaGreatDoorFr
namespace Go.Proofs.YtjppklgegpmfpaaGreatDoor
open Go.RowKit
open Go.Maps

/-- A segment: its number, its bytes, how many are synced. -/
abbrev Sg := Nat × List Int × Int
def segFs (p : ByteArray) (L : List Sg) : List (ByteArray × List Int × Int) := L.map (fun x => (seg p x.1, x.2.1, x.2.2))
/-- Rising numbers, in bounds. -/
structure Rising (L : List Sg) : Prop where
  lt : L.Pairwise (fun a b => a.1 < b.1)
  inn : ∀ x ∈ L, 1 ≤ x.1 ∧ x.1 ≤ 999999
theorem Rising.at_ {L : List Sg} (h : Rising L) {i j : Nat} {x y : Sg} (hx : L[i]? = some x) (hy : L[j]? = some y) (e : x.1 = y.1) : i = j := by
  obtain ⟨hi, e1⟩ := List.getElem?_eq_some_iff.1 hx
  obtain ⟨hj, e2⟩ := List.getElem?_eq_some_iff.1 hy
  rcases Nat.lt_trichotomy i j with k | k | k
  · have := List.pairwise_iff_getElem.1 h.lt i j hi hj k
    rw [e1, e2] at this
    omega
  · exact k
  · have := List.pairwise_iff_getElem.1 h.lt j i hj hi k
    rw [e1, e2] at this
    omega
theorem segFs_get {p : ByteArray} {L : List Sg} {i : Nat} {x : Sg} (h : L[i]? = some x) : (segFs p L)[i]? = some (seg p x.1, x.2.1, x.2.2) := by
  unfold segFs
  rw [List.getElem?_map, h]
  rfl
theorem findM_seg {p : ByteArray} {L : List Sg} (h : Rising L) {i : Nat} {x : Sg} (hx : L[i]? = some x) : findM (seg p x.1) (segFs p L) = some i := by
  unfold findM
  rw [List.findIdx?_eq_some_iff_getElem]
  obtain ⟨hi, e1⟩ := List.getElem?_eq_some_iff.1 hx
  refine ⟨by unfold segFs; rw [List.length_map]; exact hi, ?_, fun j hj => ?_⟩
  · simp [segFs, e1]
  · have hj' : j < L.length := by omega
    have hy := List.getElem?_eq_getElem hj'
    simp only [segFs, List.getElem_map]
    simp only [decide_eq_true_eq]
    intro e
    have h1 := h.inn x (List.mem_of_getElem? hx)
    have h2 := h.inn _ (List.mem_of_getElem? hy)
    have := h.at_ hy hx (seg_inj h2.2 h1.2 e)
    omega
theorem findM_other {p : ByteArray} {L : List Sg} (h : ∀ x ∈ L, x.1 ≤ 999999) {k : Nat} (hk : k ≤ 999999) (hn : ∀ x ∈ L, x.1 ≠ k) : findM (seg p k) (segFs p L) = none := by
  unfold findM
  rw [List.findIdx?_eq_none_iff]
  intro y hy
  unfold segFs at hy
  obtain ⟨x, hx, rfl⟩ := List.mem_map.1 hy
  simp only [decide_eq_false_iff_not]
  intro e
  exact hn x hx (seg_inj (h x hx) hk e)
theorem findM_tmp (p : ByteArray) (L : List Sg) : findM (tmp p) (segFs p L) = none := by
  unfold findM
  rw [List.findIdx?_eq_none_iff]
  intro y hy
  unfold segFs at hy
  obtain ⟨x, hx, rfl⟩ := List.mem_map.1 hy
  simp only [decide_eq_false_iff_not]
  exact fun e => tmp_ne p x.1 e.symm
theorem ready_ok {m : Vm} {names : List ByteArray} (hd : m.down = false) (h : ∀ s ∈ names, okName s = true) : readyE m.down names = 0 := by
  unfold readyE
  rw [hd, if_neg (by simp), if_pos (by rw [List.all_eq_true]; exact h)]

/-- It does what it is told: no crash to come, room for all. -/
structure Still (m : Vm) : Prop where
  down : m.down = false
  left : m.left < 0
  room : m.room < 0
theorem Still.step {m : Vm} (h : Still m) : m.step = (m, 0) := by
  have := h.left
  unfold Vm.step
  rw [if_neg (by omega), if_neg (by omega)]
theorem Still.does {m : Vm} (h : Still m) (f : List (ByteArray × List Int × Int) → List (ByteArray × List Int × Int)) : m.does 0 f = ({ m with fs := f m.fs }, 0) := by
  unfold Vm.does
  rw [if_neg (by simp), h.step, if_neg (by simp)]

variable {p : ByteArray} (hp : IsPre p)
include hp
theorem delete_tmp {m : Vm} {L : List Sg} (hd : m.down = false) (hf : m.fs = segFs p L) : m.delete (tmp p) = (m, 22) := by
  unfold Vm.delete Vm.hinder Vm.does
  rw [ready_ok hd (by intro s hs; rw [List.mem_singleton.1 hs]; exact tmp_ok hp), hf, findM_tmp]
  simp
theorem hinder_seg {m : Vm} {L : List Sg} (hd : m.down = false) (hf : m.fs = segFs p L) (hr : Rising L) {i : Nat} {x : Sg} (hx : L[i]? = some x) : m.hinder [seg p x.1] (seg p x.1) = 0 := by
  unfold Vm.hinder
  rw [ready_ok hd (by intro s hs; rw [List.mem_singleton.1 hs]; exact seg_ok hp _), hf, findM_seg hr hx]
  simp
theorem read_seg {m : Vm} {L : List Sg} (hd : m.down = false) (hf : m.fs = segFs p L) (hr : Rising L) {i : Nat} {x : Sg} (hx : L[i]? = some x) : m.read (seg p x.1) = (x.2.1, 0) := by
  unfold Vm.read
  rw [hinder_seg hp hd hf hr hx, if_neg (by simp)]
  unfold dataM
  rw [hf, findM_seg hr hx]
  simp only [segFs_get hx]
theorem sync_seg {m : Vm} {L : List Sg} (hs : Still m) (hf : m.fs = segFs p L) (hr : Rising L) {i : Nat} {x : Sg} (hx : L[i]? = some x) : m.sync (seg p x.1) = ({ m with fs := segFs p (L.set i (x.1, x.2.1, (x.2.1.length : Int))) }, 0) := by
  unfold Vm.sync
  rw [hinder_seg hp hs.down hf hr hx, hs.does]
  congr 2
  unfold syncM
  rw [hf, findM_seg hr hx]
  simp only [segFs_get hx]
  unfold segFs
  rw [List.map_set]
theorem append_tmp {m : Vm} {L : List Sg} (hs : Still m) (hf : m.fs = segFs p L) (b : List Int) : m.append (tmp p) b = ({ m with fs := (tmp p, b, 0) :: segFs p L }, 0) := by
  have h1 : insM (tmp p, [], 0) (segFs p L) = (tmp p, [], 0) :: segFs p L := by
    cases L with
    | nil => rfl
    | cons x L =>
      show insM (tmp p, [], 0) ((seg p x.1, x.2.1, x.2.2) :: segFs p L) = _
      unfold insM
      rw [if_pos (tmp_lt p x.1)]
      rfl
  have hr := hs.room
  unfold Vm.append
  rw [ready_ok hs.down (by intro s h; rw [List.mem_singleton.1 h]; exact tmp_ok hp), if_neg (by simp), if_neg (by omega), hs.step, if_neg (by simp), hf, findM_tmp, if_pos rfl, h1]
  congr 2
  have h2 : findM (tmp p) ((tmp p, ([] : List Int), (0 : Int)) :: segFs p L) = some 0 := by unfold findM; rw [List.findIdx?_cons]; simp
  unfold appM
  rw [h2]
  rfl
theorem sync_tmp {m : Vm} {fs : List (ByteArray × List Int × Int)} (hs : Still m) (b : List Int) (y : Int) (hf : m.fs = (tmp p, b, y) :: fs) : m.sync (tmp p) = ({ m with fs := (tmp p, b, (b.length : Int)) :: fs }, 0) := by
  have h1 : findM (tmp p) ((tmp p, b, y) :: fs) = some 0 := by unfold findM; rw [List.findIdx?_cons]; simp
  unfold Vm.sync
  have h2 : m.hinder [tmp p] (tmp p) = 0 := by
    unfold Vm.hinder
    rw [ready_ok hs.down (by intro s h; rw [List.mem_singleton.1 h]; exact tmp_ok hp), hf, h1]
    simp
  rw [h2, hs.does]
  congr 2
  unfold syncM
  rw [hf, h1]
  rfl
omit hp in
theorem insM_last {p : ByteArray} {L : List Sg} (hL : ∀ x ∈ L, x.1 ≤ 999999) {k : Nat} (hk : k ≤ 999999) (h : ∀ x ∈ L, x.1 < k) (d : List Int) (y : Int) : insM (seg p k, d, y) (segFs p L) = segFs p (L ++ [(k, d, y)]) := by
  induction L with
  | nil => rfl
  | cons x L ih =>
    have h0 := h x (by simp)
    show insM (seg p k, d, y) ((seg p x.1, x.2.1, x.2.2) :: segFs p L) = _
    unfold insM
    rw [if_neg (by rw [ltS_asym (seg_lt p h0 hk)]; simp), ih (fun z hz => hL z (List.mem_cons_of_mem _ hz)) (fun z hz => h z (List.mem_cons_of_mem _ hz))]
    rfl
theorem rename_tmp {m : Vm} {L : List Sg} {x : Sg} (hs : Still m) (b : List Int) (y : Int) (hr : Rising (L ++ [x])) (hf : m.fs = (tmp p, b, y) :: segFs p (L ++ [x])) : m.rename (tmp p) (seg p x.1) = ({ m with fs := segFs p (L ++ [(x.1, b, y)]) }, 0) := by
  have h1 : findM (tmp p) ((tmp p, b, y) :: segFs p (L ++ [x])) = some 0 := by unfold findM; rw [List.findIdx?_cons]; simp
  have hl : (L ++ [x])[L.length]? = some x := by simp
  have h2 : m.hinder [tmp p, seg p x.1] (tmp p) = 0 := by
    unfold Vm.hinder
    rw [ready_ok hs.down (by intro s h; rcases List.mem_cons.1 h with h | h <;> first | (rw [h]; exact tmp_ok hp) | (rw [List.mem_singleton.1 h]; exact seg_ok hp _)), hf, h1]
    simp
  unfold Vm.rename
  rw [h2, hs.does]
  congr 2
  rw [if_neg (tmp_ne p x.1)]
  unfold renM
  rw [hf, h1]
  simp only [List.getElem?_cons_zero, List.eraseIdx_zero, List.tail_cons]
  have h3 : dropM (seg p x.1) (segFs p (L ++ [x])) = segFs p L := by
    unfold dropM
    rw [findM_seg hr hl]
    simp only
    unfold segFs
    rw [List.map_append, List.eraseIdx_append_of_length_le (by simp)]
    simp
  rw [h3]
  have h4 := List.pairwise_append.1 hr.lt
  exact insM_last (fun z hz => (hr.inn z (by simp [hz])).2) (hr.inn x (by simp)).2 (fun z hz => h4.2.2 z hz x (by simp)) b y
omit hp

theorem sum_segFs (p : ByteArray) (L : List Sg) : sumM (segFs p L) = (L.map (fun x => x.2.1.length)).sum := by
  unfold sumM segFs
  rw [List.map_map]
  rfl

end Go.Proofs.YtjppklgegpmfpaaGreatDoor
