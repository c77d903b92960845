/-
  Memory: bytes as they lie, a slice of a call's own, append, make, the bytes as a text.
-/
import Derived.Test.YtjacjafpeajhaaaPlain
import Derived.WalkKit
import Derived.WalkSpells
import Derived.WalkLawsBesides
import Derived.Handy
import Derived.Lib.Hide
import Derived.Deep.OwnRows
import Derived.Laws.AppendOwn
import Derived.Laws.MakeOwn
import Derived.Laws.BytesArg
namespace Go.Proofs.Ytjacjafpeajhaaa
open Go.RowKit

def vals (L : List Int) : List Value := L.map (Value.int .u8)
theorem vals_len (L : List Int) : (vals L).length = L.length := by simp [vals]
theorem vals_get {L : List Int} {j : Nat} {u : Value} (h : (vals L)[j]? = some u) : ∃ x, L[j]? = some x ∧ u = .int .u8 x := by
  simp only [vals, List.getElem?_map, Option.map_eq_some_iff] at h
  obtain ⟨x, h1, h2⟩ := h
  exact ⟨x, h1, h2.symm⟩
theorem vals_of {L : List Int} {j : Nat} {x : Int} (h : L[j]? = some x) : (vals L)[j]? = some (.int .u8 x) := by simp [vals, h]
theorem vals_append (L M : List Int) : vals (L ++ M) = vals L ++ vals M := by simp [vals]
theorem vals_one {L : List Int} : ∀ u ∈ vals L, u.oneCell' = true := fun u hu => by
  obtain ⟨x, -, rfl⟩ := List.mem_map.1 hu
  rfl

theorem add_head (g i : Nat) : (⟨g, 0, none⟩ : Addr).add i = ⟨g, i, none⟩ := by
  unfold Addr.add
  split
  · next h => rw [h]
  · simp
theorem add_add (a : Addr) (m n : Nat) : (a.add m).add n = a.add (m + n) := by
  unfold Addr.add
  by_cases hm : m = 0
  · simp [hm]
  · by_cases hn : n = 0
    · simp [hn]
    · simp [hm, hn]; omega
theorem add_block (a : Addr) (n : Nat) : (a.add n).block = a.block := by
  unfold Addr.add
  split <;> rfl

/-- Bytes L, as they lie at an address. -/
def Bys (w : World) (A : Option Addr) (L : List Int) : Prop := L = [] ∨ ∃ ad, A = some ad ∧ ∀ j x, L[j]? = some x → w.cell? (ad.add j) = some (.int .u8 x)
theorem Bys.nil (w : World) (A : Option Addr) : Bys w A [] := .inl rfl
theorem Bys.kept {w w' : World} {A : Option Addr} {L : List Int} (h : Bys w A L) (hb : Below w.heap.size w w') : Bys w' A L := by
  rcases h with h | ⟨ad, h1, h2⟩
  · exact .inl h
  · refine .inr ⟨ad, h1, fun j x hx => ?_⟩
    have hc := h2 j x hx
    rw [hb.cell (World.block_lt_of_cell? w _ hc)]
    exact hc
theorem Bys.alloc {w : World} {A : Option Addr} {L : List Int} (h : Bys w A L) (o : Obj) : Bys (w.alloc o) A L := h.kept ((Below.refl _ _).alloc (Nat.le_refl _) o)
theorem Bys.part {w : World} {A : Option Addr} {L : List Int} (h : Bys w A L) (l k m : Nat) (hm : L.length ≤ m) : Bys w (if m = l then A else A.map (·.add l)) ((L.drop l).take k) := by
  by_cases e : m = l
  · left
    rw [List.drop_of_length_le (by omega)]
    simp
  · rcases h with rfl | ⟨ad, rfl, h2⟩
    · left; simp
    · refine .inr ⟨ad.add l, by simp [e], fun j x hx => ?_⟩
      rw [add_add]
      refine h2 (l + j) x ?_
      rw [List.getElem?_take] at hx
      split at hx
      · simpa using hx
      · cases hx

/-- A slice of the call's own, with bytes L. -/
def Mine (w : World) (B g c : Nat) (L : List Int) : Prop := w.ownsRow B 5 1 (.slice (some ⟨g, 0, none⟩) L.length c) L.length (vals L)
theorem Mine.raw {w : World} {B g c : Nat} {L : List Int} (h : Mine w B g c L) : ∃ cur, B ≤ g ∧ w.heap[g]? = some (.cells cur 5 (0, 0)) ∧ L.length ≤ c ∧ c ≤ maxLen ∧ cur.size = c ∧ cur.toList.take L.length = vals L := by
  obtain ⟨g', cap, cur, e, h1, h2, h3, h4, h5, h6⟩ := h.2.resolve_left (fun e => by cases e.1)
  injection e with e1 e2 e3
  injection e1 with e1
  injection e1 with e1
  subst e1
  subst e3
  exact ⟨cur, h1, h2, h3, h4, by omega, by simpa using h6⟩
theorem Mine.of {w : World} {B g c : Nat} {L : List Int} {cur : Array Value} (h1 : B ≤ g) (h2 : w.heap[g]? = some (.cells cur 5 (0, 0))) (h3 : L.length ≤ c) (h4 : c ≤ maxLen) (h5 : cur.size = c) (h6 : cur.toList.take L.length = vals L) : Mine w B g c L :=
  ⟨by rw [vals_len]; omega, .inr ⟨g, c, cur, rfl, h1, h2, h3, h4, by omega, by simpa using h6⟩⟩
theorem Mine.lt {w : World} {B g c : Nat} {L : List Int} (h : Mine w B g c L) : B ≤ g ∧ g < w.heap.size := by
  obtain ⟨cur, h1, h2, _⟩ := h.raw
  exact ⟨h1, (Array.getElem?_eq_some_iff.1 h2).1⟩
theorem Mine.cap {w : World} {B g c : Nat} {L : List Int} (h : Mine w B g c L) : L.length ≤ c ∧ c ≤ 9223372036854775807 := by
  obtain ⟨cur, _, _, h3, h4, _⟩ := h.raw
  unfold maxLen at h4
  omega
theorem Mine.cell {w : World} {B g c : Nat} {L : List Int} (h : Mine w B g c L) {j : Nat} {x : Int} (hx : L[j]? = some x) : w.cell? ⟨g, j, none⟩ = some (.int .u8 x) := by
  have := World.ownsRow.cells h (g := g) rfl j (.int .u8 x) (vals_of hx)
  rwa [add_head] at this
theorem Mine.bys {w : World} {B g c : Nat} {L : List Int} (h : Mine w B g c L) : Bys w (some ⟨g, 0, none⟩) L :=
  .inr ⟨_, rfl, fun j x hx => by rw [add_head]; exact h.cell hx⟩
theorem Mine.frozen {w : World} {B g c : Nat} {L : List Int} (h : Mine w B g c L) (j : Nat) : w.frozen? ⟨g, j, none⟩ = false := by
  obtain ⟨cur, _, h2, _⟩ := h.raw
  simp [World.frozen?, h2]
theorem Mine.of_block {w w' : World} {B g c : Nat} {L : List Int} (h : Mine w B g c L) (e : w'.heap[g]? = w.heap[g]?) : Mine w' B g c L := by
  obtain ⟨cur, h1, h2, h3, h4, h5, h6⟩ := h.raw
  exact Mine.of h1 (by rw [e, h2]) h3 h4 h5 h6
theorem Mine.kept {w w' : World} {B C g c : Nat} {L : List Int} (h : Mine w B g c L) (hb : Below C w w') (hC : w.heap.size ≤ C) : Mine w' B g c L :=
  h.of_block (hb.block g (Nat.lt_of_lt_of_le h.lt.2 hC))
theorem Mine.mono {w : World} {B C g c : Nat} {L : List Int} (h : Mine w B g c L) (hC : C ≤ B) : Mine w C g c L := by
  obtain ⟨cur, h1, h2, h3, h4, h5, h6⟩ := h.raw
  exact Mine.of (by omega) h2 h3 h4 h5 h6
theorem Mine.alloc {w : World} {B g c : Nat} {L : List Int} (h : Mine w B g c L) (o : Obj) : Mine (w.alloc o) B g c L := h.kept ((Below.refl _ _).alloc (Nat.le_refl _) o) (Nat.le_refl _)

/-- A row laid anew with its bytes. -/
theorem mine_new (w : World) (L : List Int) (cs : Array Value) (e : cs = (vals L).toArray) (hl : L.length ≤ maxLen) : Mine (w.alloc (.cells cs 5)) w.heap.size w.heap.size L.length L := by
  subst e
  exact Mine.of (Nat.le_refl _) (heap_alloc_new w _) (Nat.le_refl _) hl (by simp [vals_len]) (by rw [List.take_of_length_le (by simp [vals_len])])
theorem below_new (w : World) (o : Obj) : Below w.heap.size w (w.alloc o) := (Below.refl _ _).alloc (Nat.le_refl _) o

theorem below_then {w w1 w2 : World} (h : Below w.heap.size w w1) (k : Below w1.heap.size w1 w2) : Below w.heap.size w w2 := h.trans (k.mono h.size)

theorem info5 : (Try.prog.info? 5).map (fun i => (i.zero, i.size, i.bytes)) = some (some (.int .u8 0), 1, 1) := by kernel_rfl

/-- Where an append finds room, or a row that can be asked for. -/
def Room (n c m : Nat) : Prop := n + m ≤ c ∨ n + m ≤ 140737488355328 ∨ (c = 0 ∧ m ≤ 281474976710656)
theorem room_fits {n c m : Nat} (h : Room n c m) (hc : c < n + m) (hn : n ≤ c) : Builtin.nextslicecap (n + m) c ≤ 281474976710656 := by
  rcases h with h | h | ⟨rfl, h⟩
  · omega
  · have := growslice_fits (bytes := 1) hc (by omega)
    omega
  · rw [nextslicecap_zero (by omega)]
    omega

theorem run_append_mine (w : World) (ty : TypeId) (B g c : Nat) (L M : List Int) (A : Option Addr) (cm : Nat) (h : Mine w B g c L) (hm : Bys w A M) (hB : B ≤ w.heap.size) (hr : Room L.length c M.length) :
    ∃ g' c' w', (Builtin.append_ #[38, 38] ty #[.slice (some ⟨g, 0, none⟩) L.length c, .slice A M.length cm]).run Try.prog w = .ok (.slice (some ⟨g', 0, none⟩) (L.length + M.length) c') w' ∧
      Mine w' B g' c' (L ++ M) ∧ w.grownBy w' (some g) ∧ (L.length + M.length ≤ c → g' = g ∧ c' = c) := by
  obtain ⟨i, hi, hz0, hz1, hz2⟩ := info_parts info5
  obtain ⟨cur, h1, h2, h3, h4, h5, h6⟩ := h.raw
  have hlen : (vals L).length = L.length * i.size := by rw [hz1, vals_len]; omega
  have holds : ∀ j u, (vals L)[j]? = some u → w.cell? ((⟨g, 0, none⟩ : Addr).add j) = some u := World.ownsRow.cells h (g := g) rfl
  by_cases hroom : L.length + M.length ≤ c
  · rcases List.eq_nil_or_concat M with rfl | hne
    · refine ⟨g, c, w, ?_, by simpa using h, ⟨rfl, rfl, rfl, Nat.le_refl _, fun _ _ _ => rfl⟩, fun _ => ⟨rfl, rfl⟩⟩
      have : L.length + 0 ≤ c := hroom
      cases A <;> simp [Builtin.append_, run_underlying Try.underlying38, sizeOf, typeInfo, hi, Builtin.lenOf, Builtin.firstCells, loadCells, loadCellsFrom, storeCells, h3]
    · obtain ⟨ad, rfl, hc⟩ := hm.resolve_left (by rcases hne with ⟨_, _, rfl⟩; simp)
      have hnews : ∀ j u, (vals M)[j]? = some u → w.cell? (ad.add j) = some u := fun j u hu => by
        obtain ⟨x, e1, rfl⟩ := vals_get hu
        exact hc j x e1
      have hr := run_append_room (P := Try.prog) w 38 ty 5 i Try.underlying38 hi g L.length c cur h2 ad M.length cm (vals M) (by rw [hz1, vals_len]; omega) hnews vals_one hroom (by rw [hz1, vals_len, h5]; omega)
      rw [hz1, Nat.mul_one] at hr
      refine ⟨g, c, _, hr, Mine.of h1 (setRow_heap w g cur _ 5 _ h2) (by simpa using hroom) h4 ?_ ?_, ⟨rfl, rfl, rfl, by simp, fun k _ hk => setRow_other w g k _ (fun e => hk (by rw [e]))⟩, fun _ => ⟨rfl, rfl⟩⟩
      · simp only [List.size_toArray, List.length_append, List.length_take, List.length_drop, Array.length_toList, vals_len]
        omega
      · rw [vals_append, h6, List.length_append, ← vals_len L, ← vals_len M, ← List.length_append]
        exact List.take_left
  · have hne : M ≠ [] := fun e => by subst e; simp at hroom; omega
    obtain ⟨ad, rfl, hc⟩ := hm.resolve_left hne
    have hnews : ∀ j u, (vals M)[j]? = some u → w.cell? (ad.add j) = some u := fun j u hu => by
      obtain ⟨x, e1, rfl⟩ := vals_get hu
      exact hc j x e1
    have hfit := room_fits hr (by omega) h3
    have h64 : L.length + M.length ≤ 281474976710656 := by
      rcases hr with k | k | ⟨_, k⟩ <;> omega
    have hz : (Value.int .u8 0).cells.size = i.size := by rw [hz1]; rfl
    have hr := run_append_grow (P := Try.prog) w 38 ty 5 i (.int .u8 0) Try.underlying38 hi hz0 ⟨g, 0, none⟩ L.length c (vals L) hlen holds ad M.length cm (vals M) (by rw [hz1, vals_len]; omega) hnews (by omega) (by omega) (by rw [hz2]; omega)
    have hge := grownCap_ge w (L.length + M.length) c 5
    have hcm := grownCap_le_maxLen w (L.length + M.length) c 5 (by unfold maxLen; omega)
    refine ⟨_, _, _, hr, Mine.of hB (heap_alloc_new w.drew _) (by simpa using hge) hcm ?_ ?_, ⟨rfl, rfl, rfl, by simp, fun k hk _ => RowKit.Below.heap_alloc w.drew _ k hk⟩, fun e => absurd e hroom⟩
    · simp only [Array.size_append, List.size_toArray, size_zeroCells, vals_len]
      rw [hz, hz1]
      omega
    · simp only [Array.toList_append, List.append_assoc]
      rw [vals_append, ← List.append_assoc, List.length_append, ← vals_len L, ← vals_len M, ← List.length_append]
      exact List.take_left

theorem wpList_append_mine (w : World) {ops : Array Oper} {rest : List Oper} {o : Oper} {a : Act} {Q : Exit → Act → World → Prop} (hgd : o.guard = none) (s x : Operand)
    (ho : o.op = .call { callee := .builtin .append, args := #[s, x], argTypes := #[38, 38] })
    (B g c : Nat) (L M : List Int) (A : Option Addr) (n m cm : Nat) (hs : a.eval s = .slice (some ⟨g, 0, none⟩) n c) (hx : a.eval x = .slice A m cm) (en : L.length = n) (em : M.length = m) (h : Mine w B g c L) (hm : Bys w A M) (hB : B ≤ w.heap.size) (hr : Room L.length c M.length)
    (k : ∀ g' c' w', Mine w' B g' c' (L ++ M) → w.grownBy w' (some g) → (L.length + M.length ≤ c → g' = g ∧ c' = c) → wpList Try.prog ops Q rest (a.put o.dst (.slice (some ⟨g', 0, none⟩) (L ++ M).length c')) w') : wpList Try.prog ops Q (o :: rest) a w := by
  subst en
  subst em
  refine wpList_plain hgd fun K hK => ?_
  obtain ⟨g', c', w', r, h2, h3, h4⟩ := run_append_mine w o.type B g c L M A cm h hm hB hr
  have k' := k g' c' w' h2 h3 h4
  rw [List.length_append] at k'
  unfold Oper.wp execOp
  simp only [ho, resolve, invoke, builtin, Sem.run_bind, Sem.run_pure, Result.andThen_ok, List.map_toArray, List.map_cons, List.map_nil, hs, hx, r]
  exact hK _ _ k'

theorem wpList_make_mine (w : World) {ops : Array Oper} {rest : List Oper} {o : Oper} {a : Act} {Q : Exit → Act → World → Prop}
    (hg : o.guard = none) (l c : Operand) (hop : o.op = Op.makeSlice 38 l c) (n : Nat) (hl : a.eval l = .int .i64 0) (hc : a.eval c = .int .i64 (n : Int)) (hn : n ≤ 281474976710656)
    (k : ∀ w', Mine w' w.heap.size w.heap.size n [] → Below w.heap.size w w' → w'.heap.size = w.heap.size + 1 → wpList Try.prog ops Q rest (a.put o.dst (.slice (some ⟨w.heap.size, 0, none⟩) 0 n)) w') :
    wpList Try.prog ops Q (o :: rest) a w := by
  obtain ⟨i, hi, hz0, hz1, hz2⟩ := info_parts info5
  refine wpList_plain hg fun K hK' => ?_
  have hrun := run_make (P := Try.prog) w 38 5 i (.int .u8 0) Try.underlying38 hi hz0 .i64 .i64 0 (n : Int) (by omega) (by omega) (by rw [hz2]; omega) (by omega)
  have k' := k _ (Mine.of (Nat.le_refl _) (heap_alloc_new w (.cells (madeCells (Value.int .u8 0).cells ((n : Int).toNat * i.size)) 5)) (Nat.zero_le _) (by unfold maxLen; omega) (by rw [size_madeCells, hz1]; omega) (by simp [vals])) (below_new w _) (by simp)
  unfold Oper.wp
  simp only [Int.toNat_natCast, Int.toNat_zero] at hrun k'
  simp [execOp, hop, hl, hc, hrun, Result.andThen]
  exact hK' _ _ k'

/-- The bytes as a text. -/
theorem conv_any {w : World} {A : Option Addr} {L : List Int} (h : Bys w A L) (n c : Nat) (hn : L.length = n) : (convert 38 9 (.slice A n c)).run Try.prog w = .ok (.string (strOfNums L)) w := by
  subst hn
  rw [run_convert_bytes_string w _ _ 5 A _ c Try.underlying38 Try.underlying5 Try.underlying9]
  have key : ∀ ad : Addr, (∀ j x, L[j]? = some x → w.cell? (ad.add j) = some (.int .u8 x)) → (Conv.bytesToString (.slice (some ad) L.length c)).run Try.prog w = .ok (.string (strOfNums L)) w := fun ad hc => by
    have hl : (loadCells ad L.length).run Try.prog w = .ok (L.map (Value.int .u8)).toArray w := by
      have := run_loadCells_list (P := Try.prog) w ad (vals L) (fun j v hj => by
        obtain ⟨x, e1, rfl⟩ := vals_get hj
        exact hc j x e1)
      rwa [vals_len] at this
    rw [run_bytesToString w ad L.length c L hl, foldl_push_bytes]
    simp [strOfNums, ByteArray.empty, ByteArray.emptyWithCapacity]
    rfl
  rcases h with rfl | ⟨ad, rfl, hc⟩
  · cases A with
    | none => simp [Conv.bytesToString]; rfl
    | some ad => exact key ad (fun j x hx => by simp at hx)
  · exact key ad hc

end Go.Proofs.Ytjacjafpeajhaaa
