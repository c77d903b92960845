/-
  Walks: how many bytes two begin alike, by the program and by the document; bytes compared. Walks: bytes compared, told alike, copied; a pair told by what it shares. Walks: pairs copied, pairs alike, by the document. Walks: are pairs alike, by the document. Walks: pairs packed, by the program. Plain and memory: numbers read one behind the other; bytes of a text, in new memory. A law for a loop over an iterator of the program's own: the iterator tells each round what lies in memory. Memory: a row of bytes grows where it lies or anew; what stays beside it. Memory: answers that are marked: rows of bytes, and pairs of such rows. Plain: entries: their order, how they are packed and unpacked. Nothing of the program. Memory: entries as they lie, four cells each. Memory: slices of slices of entries.
-/
import Derived.Deep.QuietTactic
import Derived.BigQuiet
import Derived.Lib.BytesEntry
import Derived.Lib.Bytealg
import Derived.Lib.BufferMore
import Derived.StillTailTactics
import Derived.Lib.AppendStr
import Derived.Lib.ConvBytes
import Derived.RangeFuncNested
import Derived.RangeFuncBound
import Derived.RangeFuncCalls
import Derived.RangeFuncLeaves
import Derived.Shelf.Abstract
import Derived.Shelf.RegionOpen
import Derived.OwnWalkIn
import Derived.TacticsInMore
import Derived.LoopNIn
import Derived.LoopIn
import Derived.Deep.DeepAppendRoom
import Derived.Test.YtcffpkflijpdjaaCJ00
set_option linter.unusedSimpArgs false
set_option linter.unusedVariables false
namespace Go.Proofs.Ytcffpkflijpdjaa
open Go.RowKit
theorem cmpL_step {s t : List Int} {k : Nat} {x y R : Int} (h : cmpL (s.drop k) (t.drop k) = R) (hp : s[k]? = some x) (hq : t[k]? = some y) : (x < y ∧ R = -1) ∨ (y < x ∧ R = 1) ∨ (x = y ∧ cmpL (s.drop (k + 1)) (t.drop (k + 1)) = R) := by
  obtain ⟨hk, e⟩ := List.getElem?_eq_some_iff.1 hp
  obtain ⟨hk', e'⟩ := List.getElem?_eq_some_iff.1 hq
  rw [List.drop_eq_getElem_cons hk, List.drop_eq_getElem_cons hk', e, e'] at h
  rcases Int.lt_trichotomy x y with g | g | g
  · rw [cmpL_lt _ _ _ _ g] at h; exact .inl ⟨g, h.symm⟩
  · subst g; rw [cmpL_cons] at h; exact .inr (.inr ⟨rfl, h⟩)
  · rw [cmpL_gt _ _ _ _ g] at h; exact .inr (.inl ⟨g, h.symm⟩)
theorem cmpL_end {s t : List Int} {k : Nat} {R : Int} (h : cmpL (s.drop k) (t.drop k) = R) (hk : k ≤ s.length) (hk' : k ≤ t.length) (hp : ¬ (k < s.length ∧ k < t.length)) : R = if s.length < t.length then -1 else if t.length < s.length then 1 else 0 := by
  by_cases g : k < s.length
  · have g' : t.length ≤ k := by omega
    rw [List.drop_of_length_le g', List.drop_eq_getElem_cons g] at h
    rw [if_neg (by omega), if_pos (by omega)]
    exact h.symm
  · rw [List.drop_of_length_le (by omega)] at h
    by_cases g' : k < t.length
    · rw [List.drop_eq_getElem_cons g'] at h
      rw [if_pos (by omega)]
      exact h.symm
    · rw [List.drop_of_length_le (by omega)] at h
      rw [if_neg (by omega), if_neg (by omega)]
      exact h.symm
theorem drew2 (w : World) (a b : Nat) : (w.drewN a).drewN b = w.drewN (a + b) := by rw [World.drewN_drewN]
theorem drew3 (w : World) (a b c : Nat) : ((w.drewN a).drewN b).drewN c = w.drewN (a + b + c) := by rw [World.drewN_drewN, World.drewN_drewN, Nat.add_assoc]
set_option maxRecDepth 100000 in
set_option maxHeartbeats 4000000 in
theorem less_any (s t : ByteArray) (w : World) (hs : s.size ≤ 281474976710656) (ht : t.size ≤ 281474976710656) :
    Calls Try.prog 80 #[.string s, .string t] w fun e w' => e = .returned (.int .i64 (cmpL (nums s) (nums t))) ∧ ∃ k, w' = w.drewN k := by
  have HN := Lib.hid (nums_len s)
  have HM := Lib.hid (nums_len t)
  obtain ⟨R, hR⟩ : ∃ R, cmpL (nums s) (nums t) = R := ⟨_, rfl⟩
  have HR : Hid (cmpL ((nums s).drop 0) ((nums t).drop 0) = R) := Lib.hid (by simpa using hR)
  rw [hR]
  clear hR
  go_enter Try.func80, Try.ntmps80
  go_wp2_with fail
  go_loopw [5] (fun t5 wr => ∃ k m : Nat, k ≤ s.size ∧ k ≤ t.size ∧ t5 = .int .i64 k ∧ wr = w.drewN m ∧ Hid (cmpL ((nums s).drop k) ((nums t).drop k) = R)) (fun t5 _ => s.size - (intOf t5).toNat)
  case atStart => exact ⟨0, 0, by omega, by omega, rfl, rfl, HR⟩
  case round =>
    obtain ⟨k, m, hk, hkt, rfl, rfl, hr⟩ := hrel
    by_cases hlt : k < s.size ∧ k < t.size
    · obtain ⟨h1, h2⟩ := hlt
      have HS := Lib.hid (cmpL_step hr.out (nums_get s k h1) (nums_get t k h2))
      obtain ⟨x, hx⟩ : ∃ x : Int, (s[k].toNat : Int) = x := ⟨_, rfl⟩
      obtain ⟨y, hy⟩ : ∃ y : Int, (t[k].toNat : Int) = y := ⟨_, rfl⟩
      rw [hx, hy] at HS
      rcases HS.out with ⟨g, rfl⟩ | ⟨g, rfl⟩ | ⟨rfl, hr2⟩
      · have d1 : decide (x < y) = true := by simpa using g
        clear g HS
        go_upto_region 4 with fail
        go_quiet (fail)
        go_wp2_with fail
        go_ret
        exact ⟨rfl, _, drew2 _ _ _⟩
      · have d1 : decide (x < y) = false := by simp; omega
        have d2 : decide (y < x) = true := by simpa using g
        clear g HS
        go_upto_region 4 with fail
        go_quiet (fail)
        go_upto_region 6 with fail
        go_quiet (fail)
        go_wp2_with fail
        go_ret
        exact ⟨rfl, _, drew3 _ _ _ _⟩
      · have HR2 := Lib.hid hr2
        clear hr2 HS
        go_upto_region 4 with fail
        go_quiet (fail)
        go_upto_region 6 with fail
        go_quiet (fail)
        go_wp2_with fail
        go_roundw
        case rel => exact ⟨k + 1, _, by omega, by omega, by go_num, rfl, HR2⟩
        case measure => simp [intOf]; omega
    · have HE := Lib.hid (cmpL_end hr.out (by have := HN.out; omega) (by have := HM.out; omega) (by rw [HN.out, HM.out]; exact hlt))
      by_cases h1 : k < s.size
      · have h2 : k = t.size := by omega
        have HV : Hid (R = 1) := Lib.hid (by rw [HE.out, HN.out, HM.out, if_neg (by omega), if_pos (by omega)])
        have d1 : ¬ s.size < t.size := by omega
        have d2 : t.size < s.size := by omega
        have d3 : ¬ k < t.size := by omega
        clear hlt h2
        go_wp2_with fail
        go_ret
        exact ⟨ret_int HV.out.symm, _, rfl⟩
      · have h2 : k = s.size := by omega
        subst h2
        by_cases g : s.size < t.size
        · have HV : Hid (R = -1) := Lib.hid (by rw [HE.out, HN.out, HM.out, if_pos g])
          clear hlt h1
          go_wp2_with fail
          go_ret
          exact ⟨ret_int HV.out.symm, _, rfl⟩
        · have HV : Hid (R = 0) := Lib.hid (by rw [HE.out, HN.out, HM.out, if_neg g, if_neg (by omega)])
          have d2 : ¬ t.size < s.size := by omega
          clear hlt h1
          go_wp2_with fail
          go_ret
          exact ⟨ret_int HV.out.symm, _, rfl⟩
end Go.Proofs.Ytcffpkflijpdjaa
namespace Go.Proofs.Ytcffpkflijpdjaa
open Go.RowKit
theorem bytesOf_any {w : World} {A : Option Addr} {L : List Int} (h : Bys w A L) (n c : Nat) (hn : L.length = n) : (Extern.Bytes.bytesOf (.slice A n c)).run Try.prog w = .ok ⟨(Lib.bytesOf L).toArray⟩ w := by
  subst hn
  rcases h with rfl | ⟨ad, rfl, hc⟩
  · cases A with
    | none => rfl
    | some ad => rfl
  · have := Lib.run_loadBytesX (P := Try.prog) w L ad .empty hc
    rw [show (ByteArray.empty.data ++ (Lib.bytesOf L).toArray) = (Lib.bytesOf L).toArray from by (simp [ByteArray.empty, ByteArray.emptyWithCapacity]; try rfl)] at this
    exact this
theorem cmp_nums : ∀ L M : List Int, Byt L → Byt M → Lib.compareBytes (Lib.bytesOf L) (Lib.bytesOf M) = cmpL L M
  | [], [], _, _ => rfl
  | [], _ :: _, _, _ => rfl
  | _ :: _, [], _, _ => rfl
  | x :: s, y :: t, h, g => by
    have ih := cmp_nums s t h.tail g.tail
    obtain ⟨x0, x1⟩ := h.head
    obtain ⟨y0, y1⟩ := g.head
    have e : Lib.bytesOf (x :: s) = x.toNat.toUInt8 :: Lib.bytesOf s := rfl
    have e' : Lib.bytesOf (y :: t) = y.toNat.toUInt8 :: Lib.bytesOf t := rfl
    have lt : ∀ a b : Int, 0 ≤ a → a < 256 → 0 ≤ b → b < 256 → (a.toNat.toUInt8 < b.toNat.toUInt8 ↔ a < b) := fun a b a0 a1 b0 b1 => by
      rw [UInt8.lt_iff_toNat_lt]
      have e1 : a.toNat.toUInt8.toNat = a.toNat := by rw [Nat.toUInt8, UInt8.toNat_ofNat']; omega
      have e2 : b.toNat.toUInt8.toNat = b.toNat := by rw [Nat.toUInt8, UInt8.toNat_ofNat']; omega
      rw [e1, e2]
      omega
    rw [e, e']
    unfold Lib.compareBytes cmpL
    rcases Int.lt_trichotomy x y with k | k | k
    · rw [if_pos ((lt x y x0 x1 y0 y1).2 k), if_pos k]
    · subst k
      rw [if_neg (fun q => Int.lt_irrefl _ ((lt x x x0 x1 y0 y1).1 q)), if_neg (fun q => Int.lt_irrefl _ ((lt x x x0 x1 y0 y1).1 q)), if_neg (by omega), if_neg (by omega)]
      exact ih
    · rw [if_neg (fun q => by have := (lt x y x0 x1 y0 y1).1 q; omega), if_pos ((lt y x y0 y1 x0 x1).2 k), if_neg (by omega), if_pos k]
theorem run_bytealg {w : World} {A C : Option Addr} {L M : List Int} (h : Bys w A L) (g : Bys w C M) (hL : Byt L) (hM : Byt M) (n m c d : Nat) (hn : L.length = n) (hm : M.length = m) :
    (Extern.BytealgCompare.compare #[.slice A n c, .slice C m d]).run Try.prog w = .ok (.int .i64 (cmpL L M)) w := by
  change Sem.run Try.prog (do pure (goInt (Extern.BytealgCompare.cmp (← Extern.Bytes.bytesOf (.slice A n c)) (← Extern.Bytes.bytesOf (.slice C m d))))) w = _
  simp only [Sem.run_bind, Sem.run_pure, bytesOf_any h n c hn, bytesOf_any g m d hm, Result.andThen]
  rw [Lib.cmp_eq, ← cmp_nums L M hL hM]
  rfl
set_option maxRecDepth 100000 in
theorem compare_any (A C : Option Addr) (L M : List Int) (n m c d : Nat) (w : World) (h : In w A L n c) (g : In w C M m d) :
    Calls Try.prog 75 #[.slice A n c, .slice C m d] w fun e w' => e = .returned (.int .i64 (cmpL L M)) ∧ w' = w := by
  have HR := run_bytealg h.bys g.bys h.byt g.byt n m c d h.len g.len
  clear h g
  go_enter Try.func75, Try.ntmps75
  go_wp2
  rw [run_callFunc_extern Try.func93 (by kernel_rfl) (by kernel_rfl) (by kernel_rfl) (e := Extern.BytealgCompare.compare) (by kernel_rfl), HR]
  simp only [Result.andThen]
  rw [Oper.upon_value]
  go_wp2
  go_ret
  exact ⟨rfl, rfl⟩
theorem toList_ne {s t : ByteArray} (h : s ≠ t) : (s.toList == t.toList) = false := by
  rw [ByteArray.toList_eq, ByteArray.toList_eq]
  obtain ⟨⟨l⟩⟩ := s
  obtain ⟨⟨m⟩⟩ := t
  simpa using h
theorem toList_dec {L M : List Int} (hL : Byt L) (hM : Byt M) : ((strOfNums L).toList == (strOfNums M).toList) = decide (L = M) := by
  by_cases e : L = M
  · subst e; simp
  · rw [toList_ne (fun h => e ((str_of_inj hL hM).1 h))]
    simp [e]
theorem ret_bool {a b : Bool} (h : a = b) : Ending.returned (.bool a) = .returned (.bool b) := by rw [h]
theorem equal_any (A C : Option Addr) (L M : List Int) (n m c d : Nat) (w : World) (h : In w A L n c) (g : In w C M m d) :
    Calls Try.prog 48 #[.slice A n c, .slice C m d] w fun e w' => e = .returned (.bool (decide (L = M))) ∧ w' = w := by
  have k1 := conv_any h.bys n c h.len
  have k2 := conv_any g.bys m d g.len
  have HD := Lib.hid (toList_dec h.byt g.byt)
  clear h g
  go_enter Try.func48, Try.ntmps48
  go_wp2
  go_ret
  exact ⟨ret_bool HD.out, rfl⟩
theorem clone_any (A : Option Addr) (L : List Int) (n c : Nat) (w : World) (hn : L.length = n) (h : Bys w A L) (hl : L.length ≤ 140737488355328) :
    Calls Try.prog 61 #[.slice A n c] w (Longer w w.heap.size L) := by
  have HN := Lib.hid hn
  by_cases hA : A = none
  · subst hA
    obtain rfl : L = [] := by
      rcases h with h | ⟨ad, e, -⟩
      · exact h
      · cases e
    obtain rfl : n = 0 := hn.symm
    have hnil := fun W => Go.Lib.run_eql_slice_nil_nil (P := Try.prog) W 0 c Try.underlying23
    clear h hn hl
    go_enter Try.func61, Try.ntmps61
    go_wp2
    go_ret
    exact ⟨none, 0, rfl, Row.nil _ _, Below.refl _ _⟩
  · obtain ⟨ad, rfl⟩ : ∃ ad, A = some ad := Option.ne_none_iff_exists'.1 hA
    have HB := Lib.hid (h.alloc (.cells #[] 5))
    have HL := Lib.hid hl
    have M0 := Lib.hid (row_made w w.heap.size [] #[] rfl (by simp) (Nat.le_refl _))
    have B0 := Lib.hid (below_new w (.cells #[] 5))
    clear h hl hn hA
    have hnil := fun W => Go.Lib.run_eql_slice_some_nil (P := Try.prog) W ad n c Try.underlying23
    go_enter Try.func61, Try.ntmps61
    go_wp2_with (at_builtin; refine wpList_append_row _ rfl (.tmp 5) (.tmp 6) rfl w.heap.size _ 0 [] L _ 0 n c rfl rfl rfl HN.out M0.out HB.out (by simp) (by have := HL.out; simp only [List.length_nil]; omega) ?_; intro A1 c1 w1 r1 b1; have R1 := Lib.hid r1; have B1 := Lib.hid b1; clear r1 b1)
    go_ret
    exact ⟨A1, c1, ret_slice (by have := HN.out; omega), R1.out, B0.out.trans B1.out⟩
theorem In.low {w : World} {A : Option Addr} {L : List Int} {a k c : Nat} (h : In w A L (a + k) c) :
    ∃ A', (∀ W, (Instr.slice 23 (.slice A (a + k) c) (some (.int .i64 (a : Int))) none none).run Try.prog W = .ok (.slice A' k (c - a)) W) ∧ In w A' (L.drop a) k (c - a) := by
  obtain ⟨A', h1, h2⟩ := slice_low h.bys a k c h.len h.cap
  have := h.cap
  have := h.top
  exact ⟨A', h1, by rw [List.length_drop, h.len]; omega, by omega, by omega, h2, h.byt.drop a⟩
end Go.Proofs.Ytcffpkflijpdjaa
namespace Go.Proofs.Ytcffpkflijpdjaa
open Go.RowKit
/-- A literal of no bytes, as it lies. -/
def Lit0 (w : World) (g : Nat) : Prop := w.heap[g]? = some (.cells #[] 5 (0, 0))
theorem Lit0.new (w : World) (g : Nat) (h : g = w.heap.size) : Lit0 (w.alloc (.cells #[] 5)) g := by subst h; exact heap_alloc_new w _
theorem Lit0.drew {w : World} {g : Nat} (h : Lit0 w g) : Lit0 w.drew g := h
theorem Lit0.lt {w : World} {g : Nat} (h : Lit0 w g) : g < w.heap.size := (Array.getElem?_eq_some_iff.1 h).1
theorem Lit0.kept {w w' : World} {g : Nat} (h : Lit0 w g) (hb : Below w.heap.size w w') : Lit0 w' g := by
  unfold Lit0
  rw [hb.block g h.lt]
  exact h
theorem Lit0.alloc {w : World} {g : Nat} (h : Lit0 w g) (o : Obj) : Lit0 (w.alloc o) g := h.kept (below_new w o)
theorem Lit0.row {w : World} {g : Nat} (h : Lit0 w g) : Row w g (some ⟨g, 0, none⟩) 0 [] :=
  (Mine.of (Nat.le_refl _) h (Nat.le_refl _) (Nat.zero_le _) rfl rfl).row
theorem run_append_none {P : Program} (w : World) (t ty e : TypeId) (i : TypeInfo) (ht : P.underlying t = some (.slice e)) (hi : P.info? e = some i) (ad : Addr) (C : Option Addr) (cm : Nat) :
    (Builtin.append_ #[t, t] ty #[.slice (some ad) 0 0, .slice C 0 cm]).run P w = .ok (.slice (some ad) 0 0) w := by
  cases C <;> simp [Builtin.append_, run_underlying ht, sizeOf, typeInfo, hi, Builtin.lenOf, Builtin.firstCells, loadCells, loadCellsFrom, storeCells]
set_option maxRecDepth 100000 in
/-- An append onto a literal of no bytes: all that was there stays. -/
theorem run_append_zero (w : World) (ty : TypeId) (g : Nat) (M : List Int) (C : Option Addr) (cm : Nat) (h : Lit0 w g) (hm : Bys w C M) (hr : M.length ≤ 140737488355328) :
    ∃ A' c' w', (Builtin.append_ #[23, 23] ty #[.slice (some ⟨g, 0, none⟩) 0 0, .slice C M.length cm]).run Try.prog w = .ok (.slice A' M.length c') w' ∧ Row w' g A' c' M ∧ Below w.heap.size w w' := by
  obtain ⟨i, hi, hz0, hz1, hz2⟩ := info_parts info5
  obtain ⟨A', c', w', r, h2, h3, h4⟩ := run_append_grown (P := Try.prog) w 23 ty 5 i (.int .u8 0) 1 1 Try.underlying23 hi hz0 hz1 hz2 rfl (by decide) g (some ⟨g, 0, none⟩) 0 0 (vals []) h.row C M.length cm (vals M) (by simp [vals_len]) hm.lies vals_one (by unfold maxLen; omega) (by omega) (Nat.le_of_lt h.lt)
  rw [show vals [] ++ vals M = vals M from rfl, Nat.zero_add] at h2
  rw [Nat.zero_add] at r
  refine ⟨A', c', w', r, h2, ⟨h4.os, h4.tape, h4.output, h4.size, fun k hk => ?_⟩⟩
  by_cases e : k = g
  · subst e
    by_cases hM : M = []
    · subst hM
      have e2 := run_append_none (P := Try.prog) w 23 ty 5 i Try.underlying23 hi ⟨k, 0, none⟩ C cm
      rw [List.length_nil, e2] at r
      injection r with r1 r2
      rw [r2]
    · obtain ⟨ad, rfl, hc⟩ := hm.resolve_left hM
      have hpos : 0 < M.length := List.length_pos_iff.2 hM
      have hr := run_append_grow (P := Try.prog) w 23 ty 5 i (.int .u8 0) Try.underlying23 hi hz0 ⟨k, 0, none⟩ 0 0 [] (by simp) (fun j u hu => by simp at hu) ad M.length cm (vals M) (by rw [hz1, vals_len]; omega) (fun j u hu => by
        obtain ⟨x, e1, rfl⟩ := vals_get hu
        exact hc j x e1) (by omega) (by omega) (by rw [hz2, Nat.zero_add, nextslicecap_zero (by omega)]; omega)
      rw [hr] at r
      injection r with r1 r2
      rw [← r2]
      exact RowKit.Below.heap_alloc w.drew _ k hk
  · exact h4.block k hk (fun e' => e (by simpa [Value.ownBlock] using e'))
theorem step_append_zero (w : World) {ops : Array Oper} {o : Oper} {a : Act} {K : Act → World → Prop} {Q : Exit → Act → World → Prop} {E : Prop} (hgd : o.guard = none) (s x : Operand)
    (ho : o.op = .call { callee := .builtin .append, args := #[s, x], argTypes := #[23, 23] })
    (g : Nat) (M : List Int) (C : Option Addr) (m cm : Nat) (hs : a.eval s = .slice (some ⟨g, 0, none⟩) 0 0) (hx : a.eval x = .slice C m cm) (em : M.length = m) (h : Lit0 w g) (hm : Bys w C M) (hr : M.length ≤ 140737488355328)
    (k : ∀ A' c' w', Row w' g A' c' M → Below w.heap.size w w' → K (a.put o.dst (.slice A' m c')) w') : if Region.wanted o (yielded ops a.tmps) = true then Oper.wp Try.prog o a w K Q else E := by
  have hw : Region.wanted o (yielded ops a.tmps) = true := by simp [Region.wanted, hgd]
  rw [if_pos hw]
  subst em
  obtain ⟨A', c', w', r, h2, h3⟩ := run_append_zero w o.type g M C cm h hm hr
  have k' := k A' c' w' h2 h3
  unfold Oper.wp execOp
  simp only [ho, resolve, invoke, builtin, Sem.run_bind, Sem.run_pure, Result.andThen_ok, List.map_toArray, List.map_cons, List.map_nil, hs, hx, r]
  exact k'
theorem drew_size (w : World) : w.drew.heap.size = w.heap.size := rfl
theorem below_al {a w : World} (h : Below a.heap.size a w) (o : Obj) : Below a.heap.size a (w.alloc o) := h.alloc h.size o
end Go.Proofs.Ytcffpkflijpdjaa
namespace Go.Proofs.Ytcffpkflijpdjaa
open Go.RowKit
theorem conv_drew {w : World} {A : Option Addr} {L : List Int} (h : Bys w A L) (n c : Nat) (hn : L.length = n) : ∀ k, (convert 23 9 (.slice A n c)).run Try.prog (w.drewN k) = .ok (.string (strOfNums L)) (w.drewN k) := fun k => conv_any (h.kept (below_drewN (Below.refl _ w) k)) n c hn
end Go.Proofs.Ytcffpkflijpdjaa
namespace Go.Proofs.Ytcffpkflijpdjaa
open Go.RowKit
/-- What an append onto a row of bytes lets be: a block of another kind. -/
theorem block_beside {w w' : World} {B h : Nat} {A : Option Addr} {c : Nat} {L : List Int} {cs : Array Value} {ty : TypeId} (ht : ty ≠ 5) (hh : w.heap[h]? = some (.cells cs ty (0, 0))) (hs : Row w B A c L) (hg : w.grownBy w' (Value.slice A L.length c).ownBlock) : w'.heap[h]? = some (.cells cs ty (0, 0)) := by
  rw [hg.block h (Array.getElem?_eq_some_iff.1 hh).1, hh]
  intro e
  rcases hs.2 with ⟨hn, _⟩ | ⟨g', cap', cur', e', _, h2', _⟩
  · rw [hn] at e
    simp [Value.ownBlock] at e
  · rw [e'] at e
    obtain rfl : h = g' := by simpa [Value.ownBlock] using e
    rw [hh] at h2'
    injection h2' with h2'
    injection h2' with _ h2'
    exact ht h2'
/-- Blocks of other kinds than bytes lie as they lay. -/
def Beside (w w' : World) : Prop := ∀ (h : Nat) (cs : Array Value) (ty : TypeId), ty ≠ 5 → w.heap[h]? = some (.cells cs ty (0, 0)) → w'.heap[h]? = some (.cells cs ty (0, 0))
theorem Beside.trans {a b c : World} (h : Beside a b) (g : Beside b c) : Beside a c := fun k cs ty ht hk => g k cs ty ht (h k cs ty ht hk)
theorem Beside.of_below {w w' : World} (h : Below w.heap.size w w') : Beside w w' := fun k _cs _ty _ hk => (h.block k (Array.getElem?_eq_some_iff.1 hk).1).trans hk
theorem Beside.append {w w' : World} {B : Nat} {A : Option Addr} {c : Nat} {L : List Int} (hs : Row w B A c L) (hg : w.grownBy w' (Value.slice A L.length c).ownBlock) : Beside w w' := fun _ _ _ ht hk => block_beside ht hk hs hg
end Go.Proofs.Ytcffpkflijpdjaa
namespace Go.Proofs.Ytcffpkflijpdjaa
open Go.RowKit
/-- Bytes that can be read, in a block of bytes. -/
structure Held (w : World) (s : Sl) : Prop where
  in_ : In w s.a s.l s.l.length s.c
  blk : s.l = [] ∨ ∃ ad cur mk, s.a = some ad ∧ w.heap[ad.block]? = some (.cells cur 5 mk)
theorem Held.kept {w w' : World} {s : Sl} (h : Held w s) (hb : Below w.heap.size w w') : Held w' s := by
  refine ⟨h.in_.kept hb, ?_⟩
  rcases h.blk with e | ⟨ad, cur, mk, e, h1⟩
  · exact .inl e
  · exact .inr ⟨ad, cur, mk, e, by rw [hb.block _ (Array.getElem?_eq_some_iff.1 h1).1, h1]⟩
theorem Row.held {w : World} {B : Nat} {s : Sl} (h : Row w B s.a s.c s.l) (hB : Byt s.l) : Held w s := by
  refine ⟨h.in_ hB, ?_⟩
  rcases h.2 with ⟨_, h0⟩ | ⟨g, cap, cur, e, h1, h2, h3⟩
  · exact .inl (List.eq_nil_of_length_eq_zero h0)
  · injection e with e1 e2 e3
    exact .inr ⟨_, cur, _, e1, h2⟩
theorem Held.besideP {w w' : World} {D : Nat} {C : Option Addr} {d : Nat} {s : Sl} {T : List Bp} (h : Held w s) (hs : Prow w D C d T) (hg : w.grownBy w' (Value.slice C T.length d).ownBlock) : Held w' s := by
  rcases h.blk with e | ⟨ad, cur, mk, e, h1⟩
  · obtain ⟨k1, k2, k3, k4, k5⟩ := h.in_
    exact ⟨⟨k1, k2, k3, .inl e, k5⟩, .inl e⟩
  · have hb : w'.heap[ad.block]? = w.heap[ad.block]? := by
      refine hg.block _ (Array.getElem?_eq_some_iff.1 h1).1 (fun e' => ?_)
      rcases hs.2 with ⟨hn, _⟩ | ⟨g', cap', cur', e2, _, h2', _⟩
      · rw [hn] at e'
        simp [Value.ownBlock] at e'
      · rw [e2] at e'
        have eg : ad.block = g' := by simpa [Value.ownBlock] using e'
        rw [eg, h2'] at h1
        injection h1 with h1
        injection h1 with _ h1
        exact absurd h1 (by decide)
    obtain ⟨k1, k2, k3, k4, k5⟩ := h.in_
    refine ⟨⟨k1, k2, k3, ?_, k5⟩, .inr ⟨ad, cur, mk, e, by rw [hb, h1]⟩⟩
    rcases k4 with k4 | ⟨ad', e', k4⟩
    · exact .inl k4
    · rw [e] at e'
      injection e' with e'
      subst e'
      refine .inr ⟨ad, e, fun j x hx => ?_⟩
      have := k4 j x hx
      unfold World.cell? at this ⊢
      rw [add_block, hb]
      rw [add_block] at this
      exact this
def Helds (w : World) (l : List Bp) : Prop := ∀ q ∈ l, Held w q.k ∧ Held w q.v
theorem Helds.nil (w : World) : Helds w [] := fun _ h => by cases h
theorem Helds.kept {w w' : World} {l : List Bp} (h : Helds w l) (hb : Below w.heap.size w w') : Helds w' l := fun q hq => ⟨(h q hq).1.kept hb, (h q hq).2.kept hb⟩
theorem Helds.besideP {w w' : World} {D : Nat} {C : Option Addr} {d : Nat} {l T : List Bp} (h : Helds w l) (hs : Prow w D C d T) (hg : w.grownBy w' (Value.slice C T.length d).ownBlock) : Helds w' l := fun q hq => ⟨(h q hq).1.besideP hs hg, (h q hq).2.besideP hs hg⟩
theorem Helds.snoc {w : World} {l : List Bp} {q : Bp} (h : Helds w l) (hk : Held w q.k) (hv : Held w q.v) : Helds w (l ++ [q]) := fun x hx => by
  rcases List.mem_append.1 hx with hx | hx
  · exact h x hx
  · rw [List.mem_singleton] at hx
    subst hx
    exact ⟨hk, hv⟩
theorem Helds.ins {w : World} {l : List Bp} (h : Helds w l) : Ins w l := fun q hq => ⟨(h q hq).1.in_, (h q hq).2.in_⟩
end Go.Proofs.Ytcffpkflijpdjaa
namespace Go.Proofs.Ytcffpkflijpdjaa
open Go.RowKit
/-- The loop's two blocks lie as they lay. -/
def Two (h : Nat) (W W' : World) : Prop := W'.heap[h]? = W.heap[h]? ∧ W'.heap[h + 1]? = W.heap[h + 1]?
theorem Two.refl (h : Nat) (W : World) : Two h W W := ⟨rfl, rfl⟩
theorem Two.trans {h : Nat} {A B C : World} (x : Two h A B) (y : Two h B C) : Two h A C := ⟨y.1.trans x.1, y.2.trans x.2⟩
theorem Two.below {h B : Nat} {W W' : World} (k : Below B W W') (hB : h + 1 < B) : Two h W W' := ⟨k.block h (by omega), k.block (h + 1) hB⟩
end Go.Proofs.Ytcffpkflijpdjaa
namespace Go.Proofs.Ytcffpkflijpdjaa
open Go.RowKit
/-- A row's beginning is a row. -/
theorem Row.high {w : World} {B : Nat} {A : Option Addr} {c : Nat} {L : List Int} (h : Row w B A c L) (k : Nat) (hk : k ≤ L.length) : Row w B A c (L.take k) := by
  have hlen : (L.take k).length = k := by rw [List.length_take]; omega
  rcases h.2 with ⟨hv, h0⟩ | ⟨g, cap, cur, hv, hbg, hg, hnc, hcm, hcs, htake⟩
  · have : L = [] := List.eq_nil_of_length_eq_zero h0
    subst this
    simpa using h
  · injection hv with e1 e2 e3
    subst e1
    subst e3
    refine ⟨by rw [hlen]; simp [vals_len, hlen], .inr ⟨g, c, cur, by rw [hlen], hbg, hg, by omega, hcm, hcs, ?_⟩⟩
    rw [hlen]
    simp only [Nat.mul_one] at htake ⊢
    have : (cur.toList.take L.length).take k = (vals L).take k := by rw [htake]
    rw [List.take_take, Nat.min_eq_left hk] at this
    rw [this]
    simp [vals, List.map_take]
/-- An address lies in none of the blocks of some pairs. -/
def Far (A : Option Addr) (T : List Bp) : Prop := ∀ q ∈ T, ∀ ad, A = some ad → (∀ bd, q.k.a = some bd → bd.block ≠ ad.block) ∧ (∀ bd, q.v.a = some bd → bd.block ≠ ad.block)
theorem Far.nil (A : Option Addr) : Far A [] := fun _ h => by cases h
/-- While the key turns, rows elsewhere stay. -/
theorem own_far {w w' : World} {B : Nat} {e : TypeId} {size : Nat} {A C : Option Addr} {n c m d : Nat} {xs : List Value} (h : w.ownsRow B e size (.slice C m d) m xs) (hg : w.grownBy w' (Value.slice A n c).ownBlock) (hf : ∀ ad, A = some ad → ∀ cd, C = some cd → cd.block ≠ ad.block) : w'.ownsRow B e size (.slice C m d) m xs := by
  refine ⟨h.1, ?_⟩
  rcases h.2 with hn | ⟨g, cap, cur, e1, h1, h2, h3⟩
  · exact .inl hn
  · refine .inr ⟨g, cap, cur, e1, h1, ?_, h3⟩
    injection e1 with e1
    rw [hg.block g (Array.getElem?_eq_some_iff.1 h2).1 (fun e' => ?_), h2]
    cases A with
    | none => simp [Value.ownBlock] at e'
    | some ad => exact hf ad rfl _ e1 (by simpa [Value.ownBlock] using e')
end Go.Proofs.Ytcffpkflijpdjaa
namespace Go.Proofs.Ytcffpkflijpdjaa
open Go.RowKit
/-- Bytes that may be marked, in blocks from B to E. -/
def Spot (B E : Nat) (w : World) (A : Option Addr) (z : Nat) : Prop := z = 0 ∨ ∃ g cur, A = some ⟨g, 0, none⟩ ∧ B ≤ g ∧ g < E ∧ w.heap[g]? = some (.cells cur 5 (0, 0)) ∧ z ≤ cur.size ∧ ∀ j, j < z → ∃ x, cur[j]? = some (.int .u8 x)
theorem Spot.kept {B E F : Nat} {w w' : World} {A : Option Addr} {z : Nat} (h : Spot B E w A z) (hb : Below F w w') (hF : E ≤ F) : Spot B E w' A z := by
  rcases h with h | ⟨g, cur, e, h1, h2, h3, h4⟩
  · exact .inl h
  · exact .inr ⟨g, cur, e, h1, h2, by rw [hb.block g (by omega), h3], h4⟩
theorem Spot.mono {B B' E E' : Nat} {w : World} {A : Option Addr} {z : Nat} (h : Spot B E w A z) (hB : B' ≤ B) (hE : E ≤ E') : Spot B' E' w A z := by
  rcases h with h | ⟨g, cur, e, h1, h2, h3⟩
  · exact .inl h
  · exact .inr ⟨g, cur, e, by omega, by omega, h3⟩
theorem Spot.set {B E : Nat} {w : World} {A : Option Addr} {z g k : Nat} {y : Int} {cur : Array Value} (h : Spot B E w A z) (_hg : w.heap[g]? = some (.cells cur 5 (0, 0))) : Spot B E (w.setCell ⟨g, k, none⟩ (.int .u8 y)) A z := by
  rcases h with h | ⟨g', cur', e, h1, h2, h3, h4, h5⟩
  · exact .inl h
  · by_cases hgg : g' = g
    · subst hgg
      refine .inr ⟨g', cur'.setIfInBounds k (.int .u8 y), e, h1, h2, ?_, by simpa using h4, fun j hj => ?_⟩
      · simp [World.setCell, Array.getElem?_modify, h3]
      · obtain ⟨x, hx⟩ := h5 j hj
        by_cases hjk : k = j
        · subst hjk
          exact ⟨y, by rw [Array.getElem?_setIfInBounds_self_of_lt (by omega)]⟩
        · exact ⟨x, by rw [Array.getElem?_setIfInBounds_ne hjk, hx]⟩
    · refine .inr ⟨g', cur', e, h1, h2, ?_, h4, h5⟩
      rw [Below.heap_setCell w ⟨g, k, none⟩ _ g' hgg, h3]
/-- While a row and pairs are marked, in blocks from S to E: the pairs stand, their bytes are bytes, all else is as it was. -/
structure Mq (S E : Nat) (w0 : World) (A : Option Addr) (c : Nat) (T : List Bp) (X : Option Addr) (z : Nat) (w : World) : Prop where
  row : Prow w S A c T
  xs : Spot S E w X z
  spots : ∀ q ∈ T, Spot S E w q.k.a q.k.l.length ∧ Spot S E w q.v.a q.v.l.length
  kp : Kp (fun b => b < S ∨ E ≤ b) w0 w
theorem Mq.drew {S E : Nat} {w0 w : World} {A X : Option Addr} {c z : Nat} {T : List Bp} (h : Mq S E w0 A c T X z w) : Mq S E w0 A c T X z w.drew := ⟨h.row, h.xs, h.spots, ⟨h.kp.os, h.kp.tape, h.kp.output, h.kp.size, h.kp.block⟩⟩
end Go.Proofs.Ytcffpkflijpdjaa
namespace Go.Proofs.Ytcffpkflijpdjaa
/-- An entry, read: its key, its number, whether it is dead, its value. -/
abbrev Er := List Int × Int × Bool × List Int
/-- Below, at or above nought as x stands ahead of y, at its place, or behind it. -/
def ordE (x y : Er) : Int := if cmpL x.1 y.1 ≠ 0 then cmpL x.1 y.1 else if y.2.1 < x.2.1 then -1 else if x.2.1 < y.2.1 then 1 else 0
theorem cmpL_back (a b c : List Int) (h : cmpL a b = -1) (g : cmpL b c = -1) : cmpL a c = -1 := by
  have h1 := cmpL_flip a b
  have g1 := cmpL_flip b c
  have := cmpL_trans c b a (by omega) (by omega)
  have k := cmpL_flip c a
  omega
theorem ordE_lt {x y : Er} : ordE x y < 0 ↔ cmpL x.1 y.1 = -1 ∨ (x.1 = y.1 ∧ y.2.1 < x.2.1) := by
  unfold ordE
  have h3 := cmpL_three x.1 y.1
  by_cases h : cmpL x.1 y.1 = 0
  · rw [if_neg (by simpa using h)]
    have e := cmpL_eq _ _ h
    refine ⟨fun k => .inr ⟨e, ?_⟩, fun k => ?_⟩
    · split at k
      · assumption
      · split at k <;> omega
    · rcases k with k | ⟨-, k⟩
      · omega
      · rw [if_pos k]; omega
  · rw [if_pos h]
    refine ⟨fun k => .inl (by omega), fun k => ?_⟩
    rcases k with k | ⟨k, -⟩
    · omega
    · rw [k, cmpL_self] at h
      exact absurd rfl h
theorem ordE_zero {x y : Er} : ordE x y = 0 ↔ x.1 = y.1 ∧ x.2.1 = y.2.1 := by
  unfold ordE
  by_cases h : cmpL x.1 y.1 = 0
  · rw [if_neg (by simpa using h)]
    have e := cmpL_eq _ _ h
    refine ⟨fun k => ⟨e, ?_⟩, fun k => ?_⟩
    · split at k
      · omega
      · split at k <;> omega
    · rw [if_neg (by omega), if_neg (by omega)]
  · rw [if_pos h]
    refine ⟨fun k => absurd k h, fun k => ?_⟩
    rw [k.1, cmpL_self] at h
    exact absurd rfl h
theorem ordE_flip (x y : Er) : ordE y x = -ordE x y := by
  unfold ordE
  have h := cmpL_flip x.1 y.1
  by_cases e : cmpL x.1 y.1 = 0
  · rw [h, e]
    simp only [Int.neg_zero, ne_eq, not_true_eq_false, if_false]
    rcases Int.lt_trichotomy x.2.1 y.2.1 with k | k | k
    · simp [k, Int.not_lt.2 (Int.le_of_lt k)]
    · simp [k]
    · simp [k, Int.not_lt.2 (Int.le_of_lt k)]
  · rw [if_pos (by omega), if_pos (by omega), h]
theorem ordE_trans {x y z : Er} (h : ordE x y < 0) (g : ordE y z < 0) : ordE x z < 0 := by
  rw [ordE_lt] at h g ⊢
  rcases h with h | ⟨h1, h2⟩
  · rcases g with g | ⟨g1, g2⟩
    · exact .inl (cmpL_back _ _ _ h g)
    · exact .inl (g1 ▸ h)
  · rcases g with g | ⟨g1, g2⟩
    · exact .inl (h1 ▸ g)
    · exact .inr ⟨h1.trans g1, by omega⟩
theorem ordE_self (x : Er) : ordE x x = 0 := ordE_zero.2 ⟨rfl, rfl⟩
/-- May an entry be? -/
def GoodE (e : Er) : Prop := (1 ≤ e.1.length ∧ e.1.length ≤ 200) ∧ (1 ≤ e.2.1 ∧ e.2.1 ≤ 1099511627776) ∧ e.2.2.2.length ≤ 4096 ∧ (e.2.2.1 = true → e.2.2.2 = [])
instance (e : Er) : Decidable (GoodE e) := inferInstanceAs (Decidable (_ ∧ _ ∧ _ ∧ _))
/-- Entries in order, each of which may be, behind one. -/
def OrdF : Er → List Er → Prop
  | _, [] => True
  | p, e :: l => GoodE e ∧ ordE p e < 0 ∧ OrdF e l
def OrdL : List Er → Prop
  | [] => True
  | e :: l => GoodE e ∧ OrdF e l
instance decOrdF : ∀ (p : Er) (l : List Er), Decidable (OrdF p l)
  | _, [] => isTrue trivial
  | p, e :: l => by
    have := decOrdF e l
    exact inferInstanceAs (Decidable (_ ∧ _ ∧ _))
instance decOrdL : ∀ (l : List Er), Decidable (OrdL l)
  | [] => isTrue trivial
  | e :: l => by
    have := decOrdF e l
    exact inferInstanceAs (Decidable (_ ∧ _))
theorem OrdF.good {p : Er} : ∀ {l : List Er}, OrdF p l → ∀ e ∈ l, GoodE e
  | [], _, _, h => by cases h
  | x :: l, h, e, he => by
    rcases List.mem_cons.1 he with rfl | he
    · exact h.1
    · exact OrdF.good h.2.2 e he
theorem OrdL.good {l : List Er} (h : OrdL l) : ∀ e ∈ l, GoodE e := by
  cases l with
  | nil => exact fun e he => by cases he
  | cons x l =>
    intro e he
    rcases List.mem_cons.1 he with rfl | he
    · exact h.1
    · exact OrdF.good h.2 e he
theorem OrdF.above {p : Er} : ∀ {l : List Er}, OrdF p l → ∀ e ∈ l, ordE p e < 0
  | [], _, _, h => by cases h
  | x :: l, h, e, he => by
    rcases List.mem_cons.1 he with rfl | he
    · exact h.2.1
    · exact ordE_trans h.2.1 (OrdF.above h.2.2 e he)
theorem OrdF.tail {p e : Er} {l : List Er} (h : OrdF p (e :: l)) : OrdL (e :: l) := ⟨h.1, h.2.2⟩
theorem OrdL.tail {e : Er} {l : List Er} (h : OrdL (e :: l)) : OrdL l := by
  cases l with
  | nil => trivial
  | cons x l => exact OrdF.tail h.2
theorem OrdF.split : ∀ {p : Er} {l m : List Er}, OrdF p (l ++ m) → OrdF p l ∧ OrdL m
  | p, [], [], _ => ⟨trivial, trivial⟩
  | p, [], e :: m, h => ⟨trivial, OrdF.tail h⟩
  | p, x :: l, m, h => by
    have := OrdF.split (l := l) (m := m) h.2.2
    exact ⟨⟨h.1, h.2.1, this.1⟩, this.2⟩
theorem OrdL.split {l m : List Er} (h : OrdL (l ++ m)) : OrdL l ∧ OrdL m := by
  cases l with
  | nil => exact ⟨trivial, h⟩
  | cons x l =>
    have := OrdF.split h.2
    exact ⟨⟨h.1, this.1⟩, this.2⟩
theorem OrdL.take {l : List Er} (h : OrdL l) (n : Nat) : OrdL (l.take n) := (OrdL.split (m := l.drop n) (by rwa [List.take_append_drop])).1
theorem OrdL.drop {l : List Er} (h : OrdL l) (n : Nat) : OrdL (l.drop n) := (OrdL.split (l := l.take n) (by rwa [List.take_append_drop])).2
theorem OrdF.snoc : ∀ {p : Er} {l : List Er} {e : Er}, OrdF p l → GoodE e → (∀ x, (p :: l).getLast? = some x → ordE x e < 0) → OrdF p (l ++ [e])
  | p, [], e, _, h, g => ⟨h, g p rfl, trivial⟩
  | p, x :: l, e, h, k, g => ⟨h.1, h.2.1, OrdF.snoc h.2.2 k (fun y hy => g y (by rw [List.getLast?_cons_cons]; exact hy))⟩
theorem OrdL.snoc {l : List Er} {e : Er} (h : OrdL l) (k : GoodE e) (g : ∀ x, l.getLast? = some x → ordE x e < 0) : OrdL (l ++ [e]) := by
  cases l with
  | nil => exact ⟨k, trivial⟩
  | cons x l => exact ⟨h.1, OrdF.snoc h.2 k g⟩
/-- One more, as a walk over them sees it. -/
theorem ordL_step {l : List Er} {i : Nat} {e : Er} (he : l[i]? = some e) : OrdL (l.take (i + 1)) ↔ OrdL (l.take i) ∧ GoodE e ∧ ∀ p, 0 < i → l[i - 1]? = some p → ordE p e < 0 := by
  have hlt := (List.getElem?_eq_some_iff.1 he).1
  have e1 : l.take (i + 1) = l.take i ++ [e] := by rw [List.take_add_one, he]; rfl
  have hl : ∀ x, (l.take i).getLast? = some x ↔ 0 < i ∧ l[i - 1]? = some x := fun x => by
    rw [List.getLast?_eq_getElem?, List.length_take, Nat.min_eq_left (Nat.le_of_lt hlt), List.getElem?_take]
    by_cases h0 : 0 < i
    · rw [if_pos (by omega)]; simp [h0]
    · rw [if_neg (by omega)]; simp [h0]
  rw [e1]
  refine ⟨fun h => ?_, fun ⟨h, k, g⟩ => h.snoc k (fun x hx => g x ((hl x).1 hx).1 ((hl x).1 hx).2)⟩
  have h' := OrdL.split h
  refine ⟨h'.1, h.good e (by simp), fun p h0 hp => ?_⟩
  obtain ⟨j, rfl⟩ : ∃ j, i = j + 1 := ⟨i - 1, by omega⟩
  simp only [Nat.add_sub_cancel] at hp
  have e2 : l.take (j + 1) = l.take j ++ [p] := by rw [List.take_add_one, hp]; rfl
  rw [e2, List.append_assoc] at h
  exact (OrdL.split h).2.2.2.1
theorem ordL_sorted {l : List Er} (h : OrdL l) {i j : Nat} {x y : Er} (hij : i < j) (hx : l[i]? = some x) (hy : l[j]? = some y) : ordE x y < 0 := by
  have hi := (List.getElem?_eq_some_iff.1 hx).1
  have h1 := h.drop i
  rw [List.drop_eq_getElem_cons hi] at h1
  have e : l[i] = x := (List.getElem?_eq_some_iff.1 hx).2
  rw [e] at h1
  refine OrdF.above h1.2 y ?_
  obtain ⟨k, rfl⟩ : ∃ k, j = i + 1 + k := ⟨j - (i + 1), by omega⟩
  exact List.mem_of_getElem? (i := k) (by rw [List.getElem?_drop]; exact hy)
/-- How many, from the first on, have a key. -/
def runN (k : List Int) : List Er → Nat
  | [] => 0
  | e :: l => if e.1 = k then runN k l + 1 else 0
theorem runN_pos {e : Er} {l : List Er} : 1 ≤ runN e.1 (e :: l) := by
  unfold runN
  rw [if_pos rfl]
  omega
/-- What is told of an entry beside its key. -/
def headE (e : Er) : Int := 2 * e.2.1 + (if e.2.2.1 = true then 1 else 0)
def verE (e : Er) : List Int := digs (headE e) ++ (digs e.2.2.2.length ++ e.2.2.2)
def versE (l : List Er) : List Int := l.flatMap verE
theorem versE_append (l m : List Er) : versE (l ++ m) = versE l ++ versE m := by simp [versE]
/-- The keys, each once, with the number of its versions. -/
def pairsF : Nat → List Er → List Pr
  | 0, _ => []
  | _, [] => []
  | f + 1, e :: l => (e.1, digs (runN e.1 (e :: l) : Nat)) :: pairsF f ((e :: l).drop (runN e.1 (e :: l)))
def pairsE (l : List Er) : List Pr := pairsF l.length l
theorem pairsF_fuel : ∀ (f g : Nat) (l : List Er), l.length ≤ f → l.length ≤ g → pairsF f l = pairsF g l
  | 0, 0, _, _, _ => rfl
  | 0, g + 1, l, h, _ => by
    obtain rfl : l = [] := List.eq_nil_of_length_eq_zero (by omega)
    rfl
  | f + 1, 0, l, _, h => by
    obtain rfl : l = [] := List.eq_nil_of_length_eq_zero (by omega)
    rfl
  | f + 1, g + 1, [], _, _ => rfl
  | f + 1, g + 1, e :: l, hf, hg => by
    have h1 := runN_pos (e := e) (l := l)
    unfold pairsF
    rw [pairsF_fuel f g _ (by rw [List.length_drop]; simp only [List.length_cons] at hf ⊢; omega) (by rw [List.length_drop]; simp only [List.length_cons] at hg ⊢; omega)]
theorem pairsE_cons (e : Er) (l : List Er) : pairsE (e :: l) = (e.1, digs (runN e.1 (e :: l) : Nat)) :: pairsE ((e :: l).drop (runN e.1 (e :: l))) := by
  have h1 := runN_pos (e := e) (l := l)
  unfold pairsE
  conv => lhs; rw [List.length_cons]; unfold pairsF
  rw [pairsF_fuel l.length _ _ (by rw [List.length_drop]; simp only [List.length_cons]; omega) (Nat.le_refl _)]
end Go.Proofs.Ytcffpkflijpdjaa
namespace Go.Proofs.Ytcffpkflijpdjaa
open Go.RowKit
/-- An entry as it lies. -/
structure En where
  k : Sl
  s : Int
  d : Bool
  v : Sl
def En.val (q : En) : Value := .agg #[q.k.val, .int .i64 q.s, .bool q.d, q.v.val]
def En.cells (q : En) : List Value := [q.k.val, .int .i64 q.s, .bool q.d, q.v.val]
/-- What is read of an entry. -/
def En.rd (q : En) : Er := (q.k.l, q.s, q.d, q.v.l)
def ers (l : List En) : List Er := l.map En.rd
theorem ers_len (l : List En) : (ers l).length = l.length := by simp [ers]
theorem ers_append (l m : List En) : ers (l ++ m) = ers l ++ ers m := by simp [ers]
theorem ers_get {l : List En} {j : Nat} {q : En} (h : l[j]? = some q) : (ers l)[j]? = some q.rd := by simp [ers, h]
theorem ers_take (l : List En) (n : Nat) : ers (l.take n) = (ers l).take n := by simp [ers, List.map_take]
theorem ers_drop (l : List En) (n : Nat) : ers (l.drop n) = (ers l).drop n := by simp [ers, List.map_drop]
def evals (l : List En) : List Value := l.flatMap En.cells
theorem evals_len : ∀ l : List En, (evals l).length = l.length * 4
  | [] => rfl
  | q :: l => by
    have := evals_len l
    unfold evals at this ⊢
    rw [List.flatMap_cons, List.length_append, this]
    simp [En.cells]
    omega
theorem evals_append (l m : List En) : evals (l ++ m) = evals l ++ evals m := by simp [evals]
theorem evals_get : ∀ (l : List En) (j : Nat) (q : En), l[j]? = some q → (evals l)[j * 4]? = some q.k.val ∧ (evals l)[j * 4 + 1]? = some (.int .i64 q.s) ∧ (evals l)[j * 4 + 2]? = some (.bool q.d) ∧ (evals l)[j * 4 + 3]? = some q.v.val
  | [], _, _, h => by simp at h
  | p :: l, 0, q, h => by
    simp at h
    subst h
    exact ⟨rfl, rfl, rfl, rfl⟩
  | p :: l, j + 1, q, h => by
    have ih := evals_get l j q (by simpa using h)
    have e : evals (p :: l) = p.k.val :: .int .i64 p.s :: .bool p.d :: p.v.val :: evals l := rfl
    rw [e]
    have e0 : (j + 1) * 4 = j * 4 + 1 + 1 + 1 + 1 := by omega
    rw [e0]
    refine ⟨by simpa using ih.1, ?_, ?_, ?_⟩
    · rw [show j * 4 + 1 + 1 + 1 + 1 + 1 = (j * 4 + 1) + 1 + 1 + 1 + 1 by omega]
      simpa using ih.2.1
    · rw [show j * 4 + 1 + 1 + 1 + 1 + 2 = (j * 4 + 2) + 1 + 1 + 1 + 1 by omega]
      simpa using ih.2.2.1
    · rw [show j * 4 + 1 + 1 + 1 + 1 + 3 = (j * 4 + 3) + 1 + 1 + 1 + 1 by omega]
      simpa using ih.2.2.2
theorem evals_one {l : List En} : ∀ u ∈ evals l, u.oneCell' = true := fun u hu => by
  obtain ⟨q, -, h⟩ := List.mem_flatMap.1 hu
  simp [En.cells] at h
  rcases h with rfl | rfl | rfl | rfl <;> rfl
/-- The cells of one entry, as a walk spells them. -/
def AtE (w : World) (E : Addr) (q : En) : Prop := w.cell? E = some (.slice q.k.a q.k.l.length q.k.c) ∧ w.cell? ⟨E.block, E.off + 1, none⟩ = some (.int .i64 q.s) ∧ w.cell? ⟨E.block, E.off + 2, none⟩ = some (.bool q.d) ∧ w.cell? ⟨E.block, E.off + 3, none⟩ = some (.slice q.v.a q.v.l.length q.v.c)
theorem lies_entry {w : World} {A : Option Addr} {l : List En} {j : Nat} {q : En} (h : Lies w A (evals l)) (hq : l[j]? = some q) : ∃ ad, A = some ad ∧ AtE w (ad.add (j * 4)) q := by
  obtain ⟨h0, h1, h3, h4⟩ := evals_get l j q hq
  rcases h with h | ⟨ad, rfl, h2⟩
  · rw [h] at h0
    simp at h0
  · refine ⟨ad, rfl, ?_, ?_, ?_, ?_⟩
    · simpa [Sl.val] using h2 _ _ h0
    · have := h2 _ _ h1
      rw [← add_add] at this
      simpa [Addr.add, Sl.val] using this
    · have := h2 _ _ h3
      rw [← add_add] at this
      simpa [Addr.add, Sl.val] using this
    · have := h2 _ _ h4
      rw [← add_add] at this
      simpa [Addr.add, Sl.val] using this
theorem lies_entry_at {w : World} {ad : Addr} {l : List En} {j : Nat} {q : En} (h : Lies w (some ad) (evals l)) (hq : l[j]? = some q) : AtE w (ad.add (j * 4)) q := by
  obtain ⟨ad', e, h'⟩ := lies_entry h hq
  injection e with e
  subst e
  exact h'
/-- A part of a row of entries, as a slice of it lies. -/
theorem lies_part {w : World} {A : Option Addr} {l : List En} (h : Lies w A (evals l)) (i k m : Nat) (hm : l.length ≤ m) : Lies w (if m = i then A else A.map (·.add (i * 4))) (evals ((l.drop i).take k)) := by
  rcases h with h | ⟨ad, rfl, h2⟩
  · have hl : l = [] := by
      have := congrArg List.length h
      rw [evals_len] at this
      exact List.eq_nil_of_length_eq_zero (by simp at this; omega)
    subst hl
    left
    simp [evals]
  · by_cases hi : l.length ≤ i
    · left
      rw [List.drop_of_length_le hi]
      simp [evals]
    · rw [if_neg (by omega)]
      refine .inr ⟨ad.add (i * 4), rfl, fun j u hu => ?_⟩
      have e : evals ((l.drop i).take k) = ((evals l).drop (i * 4)).take (k * 4) := by
        have e3 : ∀ (x : En) (m : List En), evals (x :: m) = x.k.val :: .int .i64 x.s :: .bool x.d :: x.v.val :: evals m := fun _ _ => rfl
        have e1 : ∀ (l : List En) (i : Nat), evals (l.drop i) = (evals l).drop (i * 4) := fun l => by
          induction l with
          | nil => intro i; simp [evals]
          | cons x l ih =>
            intro i
            cases i with
            | zero => simp
            | succ i =>
              rw [List.drop_succ_cons, ih, e3, show (i + 1) * 4 = i * 4 + 1 + 1 + 1 + 1 by omega]
              rfl
        have e2 : ∀ (l : List En) (k : Nat), evals (l.take k) = (evals l).take (k * 4) := fun l => by
          induction l with
          | nil => intro k; simp [evals]
          | cons x l ih =>
            intro k
            cases k with
            | zero => simp [evals]
            | succ k =>
              rw [List.take_succ_cons, e3, e3, ih, show (k + 1) * 4 = k * 4 + 1 + 1 + 1 + 1 by omega]
              rfl
        rw [e2, e1]
      rw [e, List.getElem?_take] at hu
      split at hu
      · rw [List.getElem?_drop] at hu
        rw [add_add]
        exact h2 _ _ hu
      · cases hu
theorem info26 : (Try.prog.info? 26).map (fun i => (i.zero, i.size, i.bytes)) = some (some (.agg #[.slice none 0 0, .int .i64 0, .bool false, .slice none 0 0]), 4, 64) := by kernel_rfl
/-- A row of entries of the call's own, or nil. -/
def Erow (w : World) (B : Nat) (A : Option Addr) (c : Nat) (l : List En) : Prop := w.ownsRow B 26 4 (.slice A l.length c) l.length (evals l)
theorem Erow.nil (w : World) (B : Nat) : Erow w B none 0 [] := World.ownsRow_nil w B _ _
theorem Erow.lies {w : World} {B : Nat} {A : Option Addr} {c : Nat} {l : List En} (h : Erow w B A c l) : Lies w A (evals l) := by
  rcases h.2 with ⟨_, h⟩ | ⟨g, cap, cur, e, _⟩
  · exact .inl (by rw [List.eq_nil_of_length_eq_zero h]; rfl)
  · injection e with e1 e2 e3
    subst e1
    exact .inr ⟨_, rfl, fun j u hu => World.ownsRow.cells h (g := g) rfl j u hu⟩
theorem Erow.kept {w w' : World} {B C : Nat} {A : Option Addr} {c : Nat} {l : List En} (h : Erow w B A c l) (hb : Below C w w') (hC : w.heap.size ≤ C) : Erow w' B A c l := own_kept h hb hC
theorem Erow.mono {w : World} {B C : Nat} {A : Option Addr} {c : Nat} {l : List En} (h : Erow w B A c l) (hC : C ≤ B) : Erow w C A c l := own_mono h hC
theorem Erow.alloc {w : World} {B : Nat} {A : Option Addr} {c : Nat} {l : List En} (h : Erow w B A c l) (o : Obj) : Erow (w.alloc o) B A c l := h.kept (below_new w o) (Nat.le_refl _)
theorem run_append_erow (w : World) (ty : TypeId) (B : Nat) (A : Option Addr) (c : Nat) (T U : List En) (C : Option Addr) (cm : Nat) (h : Erow w B A c T) (hm : Lies w C (evals U)) (hB : B ≤ w.heap.size) (hr : (T.length + U.length) * 64 ≤ 140737488355328) :
    ∃ A' c' w', (Builtin.append_ #[22, 22] ty #[.slice A T.length c, .slice C U.length cm]).run Try.prog w = .ok (.slice A' (T.length + U.length) c') w' ∧ Erow w' B A' c' (T ++ U) ∧ Below B w w' ∧ w.grownBy w' (Value.slice A T.length c).ownBlock := by
  obtain ⟨i, hi, hz0, hz1, hz2⟩ := info_parts info26
  obtain ⟨A', c', w', r, h2, h3, h4⟩ := run_append_grown (P := Try.prog) w 22 ty 26 i (.agg #[.slice none 0 0, .int .i64 0, .bool false, .slice none 0 0]) 4 64 Try.underlying22 hi hz0 hz1 hz2 rfl (by decide) B A T.length c (evals T) h C U.length cm (evals U) (by rw [evals_len]) hm evals_one (by unfold maxLen; omega) hr hB
  rw [← evals_append] at h2
  exact ⟨A', c', w', r, by unfold Erow; rw [List.length_append]; exact h2, h3, h4⟩
theorem wpList_append_erow (w : World) {ops : Array Oper} {rest : List Oper} {o : Oper} {a : Act} {Q : Exit → Act → World → Prop} (hgd : o.guard = none) (s x : Operand)
    (ho : o.op = .call { callee := .builtin .append, args := #[s, x], argTypes := #[22, 22] })
    (B : Nat) (A : Option Addr) (c : Nat) (T U : List En) (C : Option Addr) (n m cm : Nat) (hs : a.eval s = .slice A n c) (hx : a.eval x = .slice C m cm) (en : T.length = n) (em : U.length = m) (h : Erow w B A c T) (hm : Lies w C (evals U)) (hB : B ≤ w.heap.size) (hr : (T.length + U.length) * 64 ≤ 140737488355328)
    (k : ∀ A' c' w', Erow w' B A' c' (T ++ U) → Below B w w' → w.grownBy w' (Value.slice A n c).ownBlock → wpList Try.prog ops Q rest (a.put o.dst (.slice A' (n + m) c')) w') : wpList Try.prog ops Q (o :: rest) a w := by
  subst en
  subst em
  refine wpList_plain hgd fun K hK => ?_
  obtain ⟨A', c', w', r, h2, h3, h4⟩ := run_append_erow w o.type B A c T U C cm h hm hB hr
  have k' := k A' c' w' h2 h3 h4
  unfold Oper.wp execOp
  simp only [ho, resolve, invoke, builtin, Sem.run_bind, Sem.run_pure, Result.andThen_ok, List.map_toArray, List.map_cons, List.map_nil, hs, hx, r]
  exact hK _ _ k'
/-- What an append onto a row of entries lets be: rows of bytes. -/
theorem Row.besideE {w w' : World} {B D : Nat} {A C : Option Addr} {c d : Nat} {L : List Int} {T : List En} (h : Row w B A c L) (hs : Erow w D C d T) (hg : w.grownBy w' (Value.slice C T.length d).ownBlock) : Row w' B A c L := by
  refine ⟨h.1, ?_⟩
  rcases h.2 with hn | ⟨g, cap, cur, e1, h1, h2, h3⟩
  · exact .inl hn
  · refine .inr ⟨g, cap, cur, e1, h1, ?_, h3⟩
    have hlt : g < w.heap.size := (Array.getElem?_eq_some_iff.1 h2).1
    rw [hg.block g hlt, h2]
    intro e
    rcases hs.2 with ⟨hn, _⟩ | ⟨g', cap', cur', e', _, h2', _⟩
    · rw [hn] at e
      simp [Value.ownBlock] at e
    · rw [e'] at e
      obtain rfl : g = g' := by simpa [Value.ownBlock] using e
      rw [h2] at h2'
      injection h2' with h2'
      injection h2' with _ h2'
      exact absurd h2' (by decide)
/-- Pairs whose bytes are rows of the call's own. -/
def EMades (w : World) (B : Nat) (l : List En) : Prop := ∀ q ∈ l, Row w B q.k.a q.k.c q.k.l ∧ Row w B q.v.a q.v.c q.v.l
theorem EMades.nil (w : World) (B : Nat) : EMades w B [] := fun _ h => by cases h
theorem EMades.kept {w w' : World} {B C : Nat} {l : List En} (h : EMades w B l) (hb : Below C w w') (hC : w.heap.size ≤ C) : EMades w' B l := fun q hq => ⟨(h q hq).1.kept hb hC, (h q hq).2.kept hb hC⟩
theorem EMades.mono {w : World} {B C : Nat} {l : List En} (h : EMades w B l) (hC : C ≤ B) : EMades w C l := fun q hq => ⟨(h q hq).1.mono hC, (h q hq).2.mono hC⟩
theorem EMades.snoc {w : World} {B : Nat} {l : List En} {q : En} (h : EMades w B l) (hk : Row w B q.k.a q.k.c q.k.l) (hv : Row w B q.v.a q.v.c q.v.l) : EMades w B (l ++ [q]) := fun x hx => by
  rcases List.mem_append.1 hx with hx | hx
  · exact h x hx
  · rw [List.mem_singleton] at hx
    subst hx
    exact ⟨hk, hv⟩
theorem EMades.besideE {w w' : World} {B D : Nat} {C : Option Addr} {d : Nat} {l T : List En} (h : EMades w B l) (hs : Erow w D C d T) (hg : w.grownBy w' (Value.slice C T.length d).ownBlock) : EMades w' B l := fun q hq => ⟨(h q hq).1.besideE hs hg, (h q hq).2.besideE hs hg⟩
/-- Pairs that can be read. -/
def EIns (w : World) (l : List En) : Prop := ∀ q ∈ l, In w q.k.a q.k.l q.k.l.length q.k.c ∧ In w q.v.a q.v.l q.v.l.length q.v.c
theorem EIns.nil (w : World) : EIns w [] := fun _ h => by cases h
theorem EIns.kept {w w' : World} {l : List En} (h : EIns w l) (hb : Below w.heap.size w w') : EIns w' l := fun q hq => ⟨(h q hq).1.kept hb, (h q hq).2.kept hb⟩
def ErB (p : Er) : Prop := Byt p.1 ∧ Byt p.2.2.2
theorem EIns.byt {w : World} {l : List En} (h : EIns w l) : ∀ p ∈ ers l, ErB p := fun p hp => by
  obtain ⟨q, hq, rfl⟩ := List.mem_map.1 hp
  exact ⟨(h q hq).1.byt, (h q hq).2.byt⟩
theorem EMades.ins {w : World} {B : Nat} {l : List En} (h : EMades w B l) (hB : ∀ p ∈ ers l, ErB p) : EIns w l := fun q hq => ⟨(h q hq).1.in_ (hB _ (List.mem_map_of_mem hq)).1, (h q hq).2.in_ (hB _ (List.mem_map_of_mem hq)).2⟩
/-- Copies of entries, in new memory. -/
def ECopied (w : World) (l : List En) (e : Ending) (w' : World) : Prop := ∃ l' A c, ers l' = ers l ∧ e = .returned (.slice A l'.length c) ∧ EMades w' w.heap.size l' ∧ Erow w' w.heap.size A c l' ∧ Below w.heap.size w w'
theorem lit_entry (w : World) (kA vA : Option Addr) (kc vc : Nat) (kl vl : List Int) (s : Int) (d : Bool) (n m : Nat) (hn : kl.length = n) (hm : vl.length = m) : Lies (w.alloc (.cells #[.slice kA n kc, .int .i64 s, .bool d, .slice vA m vc] 26)) (some ⟨w.heap.size, 0, none⟩) (evals [⟨⟨kA, kc, kl⟩, s, d, ⟨vA, vc, vl⟩⟩]) := by
  subst hn
  subst hm
  exact lit_lies w _ _ rfl _
end Go.Proofs.Ytcffpkflijpdjaa
namespace Go.Proofs.Ytcffpkflijpdjaa
open Go.RowKit
/-- A slice of entries, as a value: its place, its room, its entries. -/
structure Gl where
  a : Option Addr
  c : Nat
  l : List En
def Gl.val (s : Gl) : Value := .slice s.a s.l.length s.c
def gvals (T : List Gl) : List Value := T.map Gl.val
theorem gvals_len (T : List Gl) : (gvals T).length = T.length := by simp [gvals]
theorem gvals_append (S T : List Gl) : gvals (S ++ T) = gvals S ++ gvals T := by simp [gvals]
theorem gvals_of {T : List Gl} {j : Nat} {s : Gl} (h : T[j]? = some s) : (gvals T)[j]? = some s.val := by simp [gvals, h]
theorem gvals_one {T : List Gl} : ∀ u ∈ gvals T, u.oneCell' = true := fun u hu => by
  obtain ⟨x, -, rfl⟩ := List.mem_map.1 hu
  rfl
def gets (T : List Gl) : List (List En) := T.map Gl.l
theorem info22 : (Try.prog.info? 22).map (fun i => (i.zero, i.size, i.bytes)) = some (some (.slice none 0 0), 1, 24) := by kernel_rfl
/-- A row of slices of entries of the call's own, or nil. -/
def Grow (w : World) (B : Nat) (A : Option Addr) (c : Nat) (T : List Gl) : Prop := w.ownsRow B 22 1 (.slice A T.length c) T.length (gvals T)
theorem Grow.nil (w : World) (B : Nat) : Grow w B none 0 [] := World.ownsRow_nil w B _ _
theorem Grow.lies {w : World} {B : Nat} {A : Option Addr} {c : Nat} {T : List Gl} (h : Grow w B A c T) : Lies w A (gvals T) := by
  rcases h.2 with ⟨_, h⟩ | ⟨g, cap, cur, e, _⟩
  · exact .inl (by rw [List.eq_nil_of_length_eq_zero h]; rfl)
  · injection e with e1 e2 e3
    subst e1
    exact .inr ⟨_, rfl, fun j u hu => World.ownsRow.cells h (g := g) rfl j u hu⟩
theorem Grow.kept {w w' : World} {B C : Nat} {A : Option Addr} {c : Nat} {T : List Gl} (h : Grow w B A c T) (hb : Below C w w') (hC : w.heap.size ≤ C) : Grow w' B A c T := own_kept h hb hC
theorem Grow.mono {w : World} {B C : Nat} {A : Option Addr} {c : Nat} {T : List Gl} (h : Grow w B A c T) (hC : C ≤ B) : Grow w C A c T := own_mono h hC
theorem Grow.alloc {w : World} {B : Nat} {A : Option Addr} {c : Nat} {T : List Gl} (h : Grow w B A c T) (o : Obj) : Grow (w.alloc o) B A c T := h.kept (below_new w o) (Nat.le_refl _)
theorem wpList_append_grow (w : World) {ops : Array Oper} {rest : List Oper} {o : Oper} {a : Act} {Q : Exit → Act → World → Prop} (hgd : o.guard = none) (s x : Operand)
    (ho : o.op = .call { callee := .builtin .append, args := #[s, x], argTypes := #[42, 42] })
    (B : Nat) (A : Option Addr) (c : Nat) (T U : List Gl) (C : Option Addr) (n m cm : Nat) (hs : a.eval s = .slice A n c) (hx : a.eval x = .slice C m cm) (en : T.length = n) (em : U.length = m) (h : Grow w B A c T) (hm : Lies w C (gvals U)) (hB : B ≤ w.heap.size) (hr : (T.length + U.length) * 24 ≤ 140737488355328)
    (k : ∀ A' c' w', Grow w' B A' c' (T ++ U) → Below B w w' → w.grownBy w' (Value.slice A n c).ownBlock → wpList Try.prog ops Q rest (a.put o.dst (.slice A' (n + m) c')) w') : wpList Try.prog ops Q (o :: rest) a w := by
  subst en
  subst em
  obtain ⟨i, hi, hz0, hz1, hz2⟩ := info_parts info22
  refine wpList_plain hgd fun K hK => ?_
  obtain ⟨A', c', w', r, h2, h3, h4⟩ := run_append_grown w 42 o.type 22 i (.slice none 0 0) 1 24 Try.underlying42 hi hz0 hz1 hz2 rfl (by decide) B A T.length c (gvals T) h C U.length cm (gvals U) (by simp [gvals_len]) hm gvals_one (by unfold maxLen; omega) hr hB
  rw [← gvals_append] at h2
  have k' := k A' c' w' (by unfold Grow; rw [List.length_append]; exact h2) h3 h4
  unfold Oper.wp execOp
  simp only [ho, resolve, invoke, builtin, Sem.run_bind, Sem.run_pure, Result.andThen_ok, List.map_toArray, List.map_cons, List.map_nil, hs, hx, r]
  exact hK _ _ k'
end Go.Proofs.Ytcffpkflijpdjaa
