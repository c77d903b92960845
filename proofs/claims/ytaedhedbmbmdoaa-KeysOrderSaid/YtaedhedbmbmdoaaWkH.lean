/-
  Walks: Decode, its deferred closure.
-/
import Derived.Test.YtaedhedbmbmdoaaWkG
import Derived.Test.YtaedhedbmbmdoaaWkC
import Derived.Defers
import Derived.Recover
import Derived.RegionTactic
namespace Go.Proofs.Ytaedhedbmbmdoaa
open Go.RowKit

theorem assert_broken (W : World) (v : Value) : (Instr.typeAssert (.iface 48 v) 20 48 true).run Try.prog W = .ok (.tuple #[v, .bool true]) W := by kernel_rfl
theorem frame_caught (p q : Addr) : (#[Value.pointer (some p), Value.pointer (some q)] ++ Array.replicate (Try.f27.ntmps - #[Value.pointer (some p), Value.pointer (some q)].size) undef) = #[.pointer (some p), .pointer (some q), undef, undef, undef, undef, undef, undef, undef, undef, undef, undef, undef, undef, undef, undef, undef, undef] := by
  rw [Try.ntmps27]
  rfl

theorem catch_idle (p q : Addr) (w : World) :
    CallsD Try.prog 27 #[.pointer (some p), .pointer (some q)] .returning w fun e u' w' => e = .returned (.tuple #[]) ∧ u' = .returning ∧ w' = w := by
  refine callsD_of_wpS Try.func27 rfl fun c₀ cs hu => ?_
  rw [frame_caught]
  apply wpS_seq
  apply wpS_region
  simp [wpOpsS, go_sem, recoverD, hu, Exit.thenS]
  refine wpS_of_wp ?_
  go_wp2
  cases c₀
  simp_all [bodyPostS, results, Try.results27]

def Caught (w : World) (p q : Addr) (n : Int) (older : List PanicEntry) (v : Value) (e : Ending) (u' : FrameMode) (w' : World) : Prop :=
  e = .returned (.tuple #[]) ∧ u' = .panicking ({ v := v, recovered := true } :: older) ∧ w' = (((w.alloc (.cells #[.int .i64 n] 48)).setCell p (.slice none 0 0)).setCell q (.int .i64 n)).drew

theorem catch_broke (p q : Addr) (n : Int) (w : World) (older : List PanicEntry) (A : Option Addr) (k c : Nat) (m : Int) (hp : w.cell? p = some (.slice A k c)) (hq : w.cell? q = some (.int .i64 m)) (fp : w.frozen? p = false) (fq : w.frozen? q = false) (hn : p ≠ q) :
    CallsD Try.prog 27 #[.pointer (some p), .pointer (some q)] (.panicking ({ v := .iface 48 (.agg #[.int .i64 n]), recovered := false } :: older)) w
      (Caught w p q n older (.iface 48 (.agg #[.int .i64 n]))) := by
  refine callsD_of_wpS Try.func27 rfl fun c₀ cs hu => ?_
  rw [frame_caught]
  apply wpS_seq
  apply wpS_region
  simp [wpOpsS, go_sem, recoverD, hu, Exit.thenS]
  refine wpS_of_wp ?_
  have hta := fun W => assert_broken W (.agg #[.int .i64 n])
  have hx : ∀ (x : Bool) (w : World), (Op.unary .not (.bool x)).run Try.prog w = .ok (.bool (!x)) w := fun _ _ => rfl
  have hb1 := below_new w (.cells #[.int .i64 n] 48)
  have lp := World.block_lt_of_cell? w p hp
  have lq := World.block_lt_of_cell? w q hq
  have hp1 := (hb1.cell lp).trans hp
  have hq1 := (hb1.cell lq).trans hq
  have fp1 := (hb1.frozen lp).trans fp
  have fq1 := (hb1.frozen lq).trans fq
  have hq2 : ((w.alloc (.cells #[.int .i64 n] 48)).setCell p (.slice none 0 0)).cell? q = some (.int .i64 m) := by rw [World.cell?_setCell_other _ p q _ hn]; exact hq1
  have fq2 : ((w.alloc (.cells #[.int .i64 n] 48)).setCell p (.slice none 0 0)).frozen? q = false := by rw [← fq1]; simp
  have hy2 : ((w.alloc (.cells #[.int .i64 n] 48)).setCell p (.slice none 0 0)).cell? ⟨w.heap.size, 0, none⟩ = some (.int .i64 n) := by
    rw [World.cell?_setCell_other _ p _ _ (fun e => by subst e; simp at lp)]
    go_simp
  clear hp hq fp fq hb1 lp lq
  go_wp2
  go_region
  all_goals exact ⟨rfl, _, rfl, .tuple #[], by simp [results, Try.results27], rfl, rfl, rfl⟩

theorem str_size (L : List Int) : (strOfNums L).size = L.length := by simp [strOfNums, ByteArray.size]
theorem long_trunc (p : Pt) : (trunc p).long = (p.t && decide (64 < p.text.length)) := by
  unfold trunc Qt.long
  simp only [str_size, List.length_take]
  congr 1
  rw [decide_eq_decide]
  omega
theorem kept_long (T : List Pt) : (decide (8 < (kept9 T).length) || (kept9 T).any Qt.long) = true ↔ 8 < T.length ∨ ∃ p ∈ T, p.t = true ∧ 64 < p.text.length := by
  have hl : (kept9 T).length = min 9 T.length := by unfold kept9; simp
  by_cases h : 8 < T.length
  · have : 8 < (kept9 T).length := by omega
    simp [this, h]
  · have h1 : ¬ 8 < (kept9 T).length := by omega
    have e : kept9 T = T.map trunc := by unfold kept9; rw [List.take_of_length_le (by simp; omega)]
    have e2 : (T.map trunc).any Qt.long = true ↔ ∃ p ∈ T, p.t = true ∧ 64 < p.text.length := by
      rw [List.any_eq_true]
      constructor
      · rintro ⟨q, hq, hl⟩
        obtain ⟨p, hp, rfl⟩ := List.mem_map.1 hq
        refine ⟨p, hp, ?_⟩
        rw [long_trunc] at hl
        simpa using hl
      · rintro ⟨p, hp, hl⟩
        refine ⟨_, List.mem_map_of_mem hp, ?_⟩
        rw [long_trunc]
        simpa using hl
    rw [Bool.or_eq_true, e, e2]
    rw [e] at h1
    simp only [decide_eq_true_eq]
    constructor
    · rintro (k | k)
      · exact absurd k h1
      · exact .inr k
    · rintro (k | k)
      · exact absurd k h
      · exact .inr k
theorem kept_back (T : List Pt) (hT : ∀ p ∈ T, p.Fit ∧ p.Good) (h : (decide (8 < (kept9 T).length) || (kept9 T).any Qt.long) = false) : pts (kept9 T) = T := by
  have hn : ¬ (8 < T.length ∨ ∃ p ∈ T, p.t = true ∧ 64 < p.text.length) := fun k => by
    rw [(kept_long T).2 k] at h
    cases h
  have e : kept9 T = T.map trunc := by unfold kept9; rw [List.take_of_length_le (by simp; omega)]
  rw [e]
  unfold pts
  rw [List.map_map]
  conv => rhs; rw [← List.map_id T]
  refine List.map_congr_left fun p hp => ?_
  obtain ⟨hf, hg⟩ := hT p hp
  obtain ⟨t, v, x⟩ := p
  have hx : x.take 65 = x := by
    cases t
    · have : x = [] := by simpa [Pt.Good] using hg
      rw [this]
      rfl
    · have : ¬ 64 < x.length := fun k => hn (.inr ⟨_, hp, rfl, k⟩)
      exact List.take_of_length_le (by omega)
  show (⟨t, v, nums (strOfNums (x.take 65))⟩ : Pt) = _
  rw [hx, nums_of_str x hf.text]
  rfl
theorem kept_ok (T : List Pt) (hT : ∀ p ∈ T, p.Fit ∧ p.Good) : ∀ q ∈ kept9 T, q.Ok := fun q hq => by
  obtain ⟨p, hp, rfl⟩ := List.mem_map.1 (List.mem_of_mem_take hq)
  refine ⟨?_, (hT p hp).1.lo, (hT p hp).1.hi⟩
  show (strOfNums _).size ≤ _
  rw [str_size, List.length_take]
  omega
theorem decP_dec (L : List Int) : decP L = if (dec L).2 ≠ 0 then ([], (dec L).2) else if (decide (8 < (kept9 (dec L).1).length) || (kept9 (dec L).1).any Qt.long) = true then ([], 3) else if keyB L.length = true then ((dec L).1, 0) else ([], 30) := by
  unfold decP
  show (if (dec L).2 ≠ 0 then _ else _) = _
  by_cases h : (dec L).2 ≠ 0
  · rw [if_pos h, if_pos h]
    rfl
  · rw [if_neg h, if_neg h]
    by_cases h2 : (decide (8 < (kept9 (dec L).1).length) || (kept9 (dec L).1).any Qt.long) = true
    · rw [if_pos h2]
      exact if_pos ((kept_long _).1 h2)
    · rw [if_neg h2]
      refine (if_neg (fun k => h2 ((kept_long _).2 k))).trans ?_
      have hk : keyB L.length = true ↔ ¬ (L = [] ∨ 200 < L.length) := by
        unfold keyB
        rw [← List.length_eq_zero_iff, Bool.and_eq_true, decide_eq_true_eq, decide_eq_true_eq]
        omega
      by_cases h3 : L = [] ∨ 200 < L.length
      · rw [if_pos h3, if_neg (fun k => (hk.1 k) h3)]
      · rw [if_neg h3, if_pos (hk.2 h3)]
        rfl

/-- What Decode answers: new parts, and the error. -/
def Read (w : World) (p : List Pt × Int) (e : Ending) (w' : World) : Prop :=
  ∃ A c l, e = .returned (.tuple #[.slice A l.length c, .int .i64 p.2]) ∧ pts l = p.1 ∧ (∀ q ∈ l, q.Ok) ∧ Prow w' w.heap.size A c l ∧ Below w.heap.size w w'

/-- A slice that can be read: bytes, as they lie, its length and its room. -/
structure In (w : World) (A : Option Addr) (L : List Int) (n c : Nat) : Prop where
  len : L.length = n
  cap : n ≤ c
  top : (c : Int) ≤ 9223372036854775807
  bys : Bys w A L
  byt : Byt L

theorem reader_made (w : World) (A : Option Addr) (L : List Int) (n c : Nat) (h : In w A L n c) (o1 o2 : Obj) :
    Rd (((w.alloc o1).alloc o2).alloc (.cells #[.slice A n c] 51)) (w.heap.size + 2) (w.heap.size + 2) A c L := by
  have hlt := h.bys.lt
  have hb : Below w.heap.size w (((w.alloc o1).alloc o2).alloc (.cells #[.slice A n c] 51)) := (((Below.refl _ _).alloc (Nat.le_refl _) o1).alloc (by simp) o2).alloc (by simp; omega) _
  have hn := heap_alloc_new ((w.alloc o1).alloc o2) (.cells #[.slice A n c] 51)
  refine ⟨Nat.le_refl _, ?_, by have := h.len; have := h.cap; omega, h.top, h.byt, ?_⟩
  · rw [h.len, ← hn]
    simp
  · rcases hlt.kept hb with e | ⟨ad, e1, e2, e3⟩
    · exact .inl e
    · exact .inr ⟨ad, e1, by omega, e3⟩

theorem two_kept {w w2 : World} {u v : Value} {s t : TypeId} {o : Obj} (h : Below (w.heap.size + 2) (((w.alloc (.cells #[u] s)).alloc (.cells #[v] t)).alloc o) w2) :
    (w2.cell? ⟨w.heap.size, 0, none⟩ = some u ∧ w2.frozen? ⟨w.heap.size, 0, none⟩ = false) ∧ (w2.cell? ⟨w.heap.size + 1, 0, none⟩ = some v ∧ w2.frozen? ⟨w.heap.size + 1, 0, none⟩ = false) := by
  have h1 : w2.heap[w.heap.size]? = some (.cells #[u] s (0, 0)) := by
    rw [h.block _ (by omega), Below.heap_alloc _ _ _ (by simp; omega), Below.heap_alloc _ _ _ (by simp)]
    exact heap_alloc_new w _
  have h2 : w2.heap[w.heap.size + 1]? = some (.cells #[v] t (0, 0)) := by
    rw [h.block _ (by omega), Below.heap_alloc _ _ _ (by simp)]
    have := heap_alloc_new (w.alloc (.cells #[u] s)) (.cells #[v] t)
    rwa [World.size_alloc] at this
  refine ⟨⟨?_, ?_⟩, ⟨?_, ?_⟩⟩ <;> simp [World.cell?, World.frozen?, h1, h2]

/-- Behind the door: the results are read. -/
theorem left_two {w3 : World} {a b : Addr} {n i : Value} {tm : Array Value} {R : Ending → World → Prop} (ha : w3.cell? a = some n) (hb : w3.cell? b = some i) (hR : R (.returned (.tuple #[n, i])) w3) (h2 : tm[2]? = some (.pointer (some a)) := by rfl) (h3 : tm[3]? = some (.pointer (some b)) := by rfl) :
    Leaves Try.prog Try.f13 tm R [] .returning w3 := by
  refine ⟨.tuple #[n, i], ?_, hR⟩
  simp [results, Try.results13, go_sem, h2, h3, ha, hb]

set_option maxRecDepth 100000 in
set_option maxHeartbeats 4000000 in
theorem decode_broke (A : Option Addr) (L : List Int) (n c : Nat) (w : World) (h : In w A L n c) (h0 : (dec L).2 ≠ 0) :
    Calls Try.prog 13 #[.slice A n c] w (Read w (decP L)) := by
  have HR := Lib.hid (reader_made w A L n c h (.cells #[.slice none 0 0] 22) (.cells #[.int .i64 0] 25))
  have HP : Hid (decP L = ([], (dec L).2)) := Lib.hid (by rw [decP_dec, if_pos h0])
  have HN := Lib.hid (row_any _ _ _ A c L HR.out)
  unfold Rowed at HN
  generalize decP L = p at HP
  generalize dec L = d at HN HP h0
  obtain ⟨T, e⟩ := d
  simp only at HN HP h0
  simp only [if_neg h0] at HN
  have hmf : ∀ (fn : Fn) (first cap : Array Value) (w : World), (Instr.makeFunc fn first cap).run Try.prog w = .ok (.func fn first cap) w := fun _ _ _ _ => rfl
  clear h h0
  go_enter_defers Try.func13, Try.ntmps13
  go_wp2_with (go_at_call 28; refine HN.out.mono ?_; rintro e1 w2 ⟨he, hb⟩; unfold broke at he; subst he; have B2 := Lib.hid hb; clear hb)
  obtain ⟨⟨c0, c1⟩, ⟨d0, d1⟩⟩ := two_kept B2.out
  refine leaves_cons (f := 27) (args := #[.pointer (some ⟨w.heap.size, 0, none⟩), .pointer (some ⟨w.heap.size + 1, 0, none⟩)]) (by simp) (by simp [go_sem]) ?_
  refine (catch_broke ⟨w.heap.size, 0, none⟩ ⟨w.heap.size + 1, 0, none⟩ e w2 [] none 0 0 0 c0 d0 c1 d1 (by simp)).mono ?_
  rintro e1 u' w3 ⟨rfl, rfl, rfl⟩
  have l0 := World.block_lt_of_cell? w2 _ c0
  have l1 := World.block_lt_of_cell? w2 _ d0
  simp only at l0 l1
  have hb1 : Below w.heap.size w w2 := ((((Below.refl _ _).alloc (Nat.le_refl _) _).alloc (by simp) _).alloc (by simp; omega) _).trans (B2.out.mono (by omega))
  refine left_two (n := .slice none 0 0) (i := .int .i64 e) (w3 := _) ?_ ?_ ?_
  · go_simp
  · go_simp
  · rw [HP.out]
    exact ⟨none, 0, [], rfl, rfl, fun q hq => (by cases hq), Prow.nil _ _, (((hb1.alloc (by omega) _).setCell (Nat.le_refl _) _).setCell (by simp) _).drew⟩

theorem two_size {w w2 : World} {o1 o2 o : Obj} (h : Below (w.heap.size + 2) (((w.alloc o1).alloc o2).alloc o) w2) : w.heap.size + 2 ≤ w2.heap.size := by
  have := h.size
  simp at this
  omega
theorem two_below {w w2 : World} {o1 o2 o : Obj} (h : Below (w.heap.size + 2) (((w.alloc o1).alloc o2).alloc o) w2) : Below w.heap.size w w2 :=
  ((((Below.refl _ _).alloc (Nat.le_refl _) _).alloc (by simp) _).alloc (by simp; omega) _).trans (h.mono (by omega))
/-- Cells of results kept, behind what keeps all below. -/
theorem two_belowx {w w1 w2 : World} {g : Nat} {u v : Value} {s t : TypeId} {o : Obj} (hw : w1 = ((w.alloc (.cells #[u] s)).alloc (.cells #[v] t)).alloc o) (hg : g = w.heap.size + 2) (h : BelowX w1.heap.size g w1 w2) : Below (w.heap.size + 2) (((w.alloc (.cells #[u] s)).alloc (.cells #[v] t)).alloc o) w2 := by
  subst hw
  subst hg
  exact h.below (by simp) (Nat.le_refl _)

set_option maxRecDepth 100000 in
set_option maxHeartbeats 4000000 in
theorem decode_ok (A : Option Addr) (L : List Int) (n c : Nat) (w : World) (h : In w A L n c) (h0 : (dec L).2 = 0) (hn : n ≤ 281474976710656) :
    Calls Try.prog 13 #[.slice A n c] w (Read w (decP L)) := by
  have HR := Lib.hid (reader_made w A L n c h (.cells #[.slice none 0 0] 22) (.cells #[.int .i64 0] 25))
  have HT := Lib.hid (enc_dec L.length L (Nat.le_refl _) h.byt h0).2
  have HP := Lib.hid (decP_dec L)
  have HN := Lib.hid (row_any _ _ _ A c L HR.out)
  unfold Rowed at HN
  rw [h.len] at HP
  change Hid (∀ p ∈ (dec L).1, p.Fit ∧ p.Good) at HT
  generalize decP L = p at HP
  generalize dec L = d at HN HP h0 HT
  obtain ⟨T, e⟩ := d
  simp only at HN HP h0 HT
  subst h0
  simp only [if_true] at HN
  simp only [ne_eq, not_true_eq_false, if_false] at HP
  have HO := Lib.hid (kept_ok T HT.out)
  have H9 := Lib.hid (kept9_len T)
  have hmf : ∀ (fn : Fn) (first cap : Array Value) (w : World), (Instr.makeFunc fn first cap).run Try.prog w = .ok (.func fn first cap) w := fun _ _ _ _ => rfl
  clear h
  have HB := Lib.hid (kept_back T HT.out)
  obtain ⟨l, hl⟩ : ∃ l, kept9 T = l := ⟨_, rfl⟩
  rw [hl] at HN HP HO H9 HB
  clear hl
  obtain ⟨m, hm⟩ : ∃ m, l.length = m := ⟨_, rfl⟩
  have HM := Lib.hid hm
  have hm9 : m ≤ 9 := by have := H9.out; omega
  obtain ⟨b, hb⟩ : ∃ b, (decide (8 < l.length) || l.any Qt.long) = b := ⟨_, rfl⟩
  rw [hb] at HP HB
  rw [hm] at HN
  have HL := Lib.hid hb
  clear hm hb
  cases b
  · simp only [Bool.false_eq_true, if_false] at HP
    have hpt := Lib.hid (HB.out rfl)
    obtain ⟨k, hk⟩ : ∃ k, keyB n = k := ⟨_, rfl⟩
    rw [hk] at HP
    have HK := Lib.hid hk
    clear hk
    cases k
    · simp only [Bool.false_eq_true, if_false] at HP
      go_enter_defers Try.func13, Try.ntmps13
      go_wp2_with (first
        | (go_at_call 28; refine HN.out.mono ?_; rintro e1 w2 ⟨A2, c2, rfl, r2, b2⟩; have R2 := Lib.hid r2; have B2 := Lib.hid (two_belowx rfl rfl b2); clear r2 b2)
        | (go_at_call 21; refine (isLong_any A2 l m c2 _ HM.out (by omega) R2.out.lies HO.out).mono ?_; rintro e2 w3 ⟨rfl, b3⟩; rw [HL.out]; have B3 := Lib.hid (B2.out.trans (b3.mono (two_size B2.out))); have R3 := Lib.hid (R2.out.kept b3 (Nat.le_refl _)); obtain ⟨⟨c0, c1⟩, ⟨d0, d1⟩⟩ := two_kept B3.out; clear b3)
        | (go_at_call 25; refine (isKey_any A n c _ hn).mono ?_; rintro e3 w4 ⟨rfl, hw⟩; subst hw; rw [HK.out]))
      have l2 := two_size B3.out
      have hb1 := two_below B3.out
      refine leaves_cons (f := 27) (args := #[.pointer (some ⟨w.heap.size, 0, none⟩), .pointer (some ⟨w.heap.size + 1, 0, none⟩)]) (by simp) (by simp [go_sem]) ?_
      refine (catch_idle _ _ _).mono ?_
      rintro e u' w5 ⟨rfl, rfl, rfl⟩
      refine left_two (n := .slice none 0 0) (i := .int .i64 30) ?_ ?_ ?_
      · go_simp
      · go_simp
      · rw [HP.out]
        exact ⟨none, 0, [], rfl, rfl, fun q hq => (by cases hq), Prow.nil _ _, (hb1.setCell (Nat.le_refl _) _).setCell (by simp) _⟩
    · simp only [if_true] at HP
      go_enter_defers Try.func13, Try.ntmps13
      go_wp2_with (first
        | (go_at_call 28; refine HN.out.mono ?_; rintro e1 w2 ⟨A2, c2, rfl, r2, b2⟩; have R2 := Lib.hid r2; have B2 := Lib.hid (two_belowx rfl rfl b2); clear r2 b2)
        | (go_at_call 21; refine (isLong_any A2 l m c2 _ HM.out (by omega) R2.out.lies HO.out).mono ?_; rintro e2 w3 ⟨rfl, b3⟩; rw [HL.out]; have B3 := Lib.hid (B2.out.trans (b3.mono (two_size B2.out))); have R3 := Lib.hid (R2.out.kept b3 (Nat.le_refl _)); obtain ⟨⟨c0, c1⟩, ⟨d0, d1⟩⟩ := two_kept B3.out; clear b3)
        | (go_at_call 25; refine (isKey_any A n c _ hn).mono ?_; rintro e3 w4 ⟨rfl, hw⟩; subst hw; rw [HK.out]))
      have l2 := two_size B3.out
      have hb1 := two_below B3.out
      refine leaves_cons (f := 27) (args := #[.pointer (some ⟨w.heap.size, 0, none⟩), .pointer (some ⟨w.heap.size + 1, 0, none⟩)]) (by simp) (by simp [go_sem]) ?_
      refine (catch_idle _ _ _).mono ?_
      rintro e u' w5 ⟨rfl, rfl, rfl⟩
      refine left_two (n := .slice A2 m c2) (i := .int .i64 0) ?_ ?_ ?_
      · go_simp
      · go_simp
      · rw [HP.out]
        exact ⟨A2, c2, l, by rw [HM.out], hpt.out, HO.out, own_mono (ownsRow_setCell_below (ownsRow_setCell_below R3.out (by simp; omega) _) (by simp) _) (by simp; omega), (hb1.setCell (Nat.le_refl _) _).setCell (by simp) _⟩
  · simp only [if_true] at HP
    go_enter_defers Try.func13, Try.ntmps13
    go_wp2_with (first
      | (go_at_call 28; refine HN.out.mono ?_; rintro e1 w2 ⟨A2, c2, rfl, r2, b2⟩; have R2 := Lib.hid r2; have B2 := Lib.hid (two_belowx rfl rfl b2); clear r2 b2)
      | (go_at_call 21; refine (isLong_any A2 l m c2 _ HM.out (by omega) R2.out.lies HO.out).mono ?_; rintro e2 w3 ⟨rfl, b3⟩; rw [HL.out]; have B3 := Lib.hid (B2.out.trans (b3.mono (two_size B2.out))); have R3 := Lib.hid (R2.out.kept b3 (Nat.le_refl _)); obtain ⟨⟨c0, c1⟩, ⟨d0, d1⟩⟩ := two_kept B3.out; clear b3))
    have l2 := two_size B3.out
    have hb1 := two_below B3.out
    refine leaves_cons (f := 27) (args := #[.pointer (some ⟨w.heap.size, 0, none⟩), .pointer (some ⟨w.heap.size + 1, 0, none⟩)]) (by simp) (by simp [go_sem]) ?_
    refine (catch_idle _ _ _).mono ?_
    rintro e u' w5 ⟨rfl, rfl, rfl⟩
    refine left_two (n := .slice none 0 0) (i := .int .i64 3) ?_ ?_ ?_
    · go_simp
    · go_simp
    · rw [HP.out]
      exact ⟨none, 0, [], rfl, rfl, fun q hq => (by cases hq), Prow.nil _ _, (hb1.setCell (Nat.le_refl _) _).setCell (by simp) _⟩

theorem decode_any (A : Option Addr) (L : List Int) (n c : Nat) (w : World) (h : In w A L n c) (hn : n ≤ 281474976710656) :
    Calls Try.prog 13 #[.slice A n c] w (Read w (decP L)) := by
  by_cases h0 : (dec L).2 = 0
  · exact decode_ok A L n c w h h0 hn
  · exact decode_broke A L n c w h h0

end Go.Proofs.Ytaedhedbmbmdoaa
